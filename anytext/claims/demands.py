"""Demands on the texts that names have.

A demand is a dict from names to machines of the bench; a run meets it if each machine accepts the text of its name.
"""

from anytext.machines.combine import either

# A machine of up to so many states is cheap, whatever it takes the place of.
SMALL = 60
# Two machines that have more pairs of states than this are not put together.
MOST_PAIRS = 20000


def with_machine(bench, demand, name, machine):
    """Returns the demand to which this machine is added for the name."""
    found = {other: demand[other] for other in demand}
    found[name] = bench.meeting(demand[name], machine) if name in demand else machine
    return found


def can_be_met(bench, demand):
    """Tells whether each machine of the demand accepts some text."""
    return not any([bench.has_no_text(demand[name]) for name in demand])


def covers(bench, demand, other):
    """Tells whether the demand covers the other one."""
    for name in demand:
        if not bench.includes(demand[name], other.get(name, bench.all_texts)):
            return False
    return True


def covered_by_one(bench, demands, other):
    """Tells whether a single one of the demands covers the other one."""
    for demand in demands:
        if covers(bench, demand, other):
            return True
    return False


def key_of(demand):
    """Returns what tells the demand from others."""
    return tuple([(name, demand[name]) for name in sorted(demand)])


def fewer(bench, demands):
    """Returns fewer demands, of which a run meets one exactly if it meets one of these.

    Each of these that can be met is covered by a single one of them.
    """
    found = {}
    for demand in demands:
        if can_be_met(bench, demand):
            useful = _without_all_texts(bench, demand)
            found[key_of(useful)] = useful
    some = list(found.values())
    for name in sorted(set([name for demand in some for name in demand])):
        some = _put_together(bench, some, name)
    return _uncovered(bench, some)


def _without_all_texts(bench, demand):
    """Returns the demand without machines that accept all texts."""
    return {name: demand[name] for name in demand if not bench.includes(demand[name], bench.all_texts)}


def _put_together(bench, demands, name):
    """Returns the demands, fewer of them where they differ in the machine for the name alone."""
    found = [demand for demand in demands if name not in demand]
    lots = {}
    for demand in demands:
        if name in demand:
            rest = {other: demand[other] for other in demand if other != name}
            lots.setdefault(key_of(rest), []).append(demand[name])
    for rest in lots:
        for machine in _put_together_machines(bench, lots[rest]):
            found.append(_without_all_texts(bench, with_machine(bench, dict(rest), name, machine)))
    return found


def _put_together_machines(bench, machines):
    """Returns machines of the same texts, where it can be fewer of them that are not larger together."""
    found = []
    for machine in machines:
        if found and len(found[-1].table) * len(machine.table) <= MOST_PAIRS:
            joint = either(found[-1], machine)
            if len(joint.table) <= max(SMALL, len(found[-1].table) + len(machine.table)):
                found[-1] = bench.kept(joint)
                continue
        found.append(machine)
    return found


def _uncovered(bench, demands):
    """Returns the demands without those that another one of them covers."""
    found = []
    for demand in demands:
        if not covered_by_one(bench, found, demand):
            found = [other for other in found if not covers(bench, demand, other)]
            found.append(demand)
    return found
