"""Searching in machines: least texts, useful states, and whether there are finitely many texts."""

from anytext.machines.explore import least_way
from anytext.machines.ways import reached, ways_back


def first_text(machine):
    """Returns the least accepted text, or None if there is none."""
    return least_way(
        machine.letters,
        0,
        lambda state, index: machine.table[state][index],
        lambda state: machine.accepting[state],
    )


def is_empty(machine):
    """Tells whether no text is accepted."""
    return first_text(machine) is None


def outside(first, second):
    """Returns the least text that the first accepts and the second does not, or None."""
    return _first_of_two(first, second, lambda one, other: one and not other)


def parting(first, second):
    """Returns the least text that exactly one of them accepts, or None."""
    return _first_of_two(first, second, lambda one, other: one != other)


def _first_of_two(first, second, chosen):
    """Returns the least text of which `chosen` takes what the two machines tell, or None."""

    def step(pair, index):
        return (first.table[pair[0]][index], second.table[pair[1]][index])

    def accepts(pair):
        return chosen(first.accepting[pair[0]], second.accepting[pair[1]])

    return least_way(first.letters, (0, 0), step, accepts)


def useful(machine):
    """Returns the ascending list of the useful states."""
    ends = [state for state, accepting in enumerate(machine.accepting) if accepting]
    led_to = reached([0], machine.table)
    leads_on = reached(ends, ways_back(machine.table))
    return [state for state in range(len(machine.table)) if led_to[state] and leads_on[state]]


def is_finite(machine):
    """Tells whether only finitely many texts are accepted: whether the useful states make no ring."""
    states = useful(machine)
    kept = {state: True for state in states}
    befores = {state: 0 for state in states}
    for state in states:
        for after in machine.table[state]:
            if after in kept:
                befores[after] += 1
    # States to which no other one leads any more are taken away; those of a ring, and behind it, are left.
    free = [state for state in states if befores[state] == 0]
    taken = 0
    while free:
        state = free.pop()
        taken += 1
        for after in machine.table[state]:
            if after in kept:
                befores[after] -= 1
                if befores[after] == 0:
                    free.append(after)
    return taken == len(states)
