"""Leading demands back over the lines of a program."""

from anytext.claims.demands import can_be_met, with_machine
from anytext.machines.combine import opposite
from anytext.machines.lots import reversal
from anytext.rewriters.images import before_image, domain


def wrong_end(bench, book, program, claim):
    """Returns the demand that the runs meet at the end whose text does not belong to the pattern of the output."""
    return {program.result: _opposite_of(bench, book, claim.output)}


def refused(bench, book, line):
    """Returns the demands of which the line refuses the runs that meet one of them."""
    if line[0] == "need":
        return [{line[1]: _opposite_of(bench, book, line[2])}]
    if line[0] == "rewrite":
        read = _domain(bench, book, line[2])
        return [{line[3]: bench.once(("opposite", read), lambda: opposite(read))}]
    return []


def led_back(bench, book, line, demand):
    """Returns the demands of which one is met in front of the line exactly by the runs that meet the demand behind it.

    Those that cannot be met may be left out.
    """
    kind = line[0]
    if kind == "need":
        return [with_machine(bench, demand, line[1], _pattern(bench, book, line[2]))]
    rest = {name: demand[name] for name in demand if name != line[1]}
    wanted = demand.get(line[1], None)
    if kind == "rewrite":
        return [with_machine(bench, rest, line[3], _rewritten(bench, book, line[2], wanted))]
    if wanted is None:
        return [rest]
    if kind == "turn":
        turned = bench.once(("turned", wanted), lambda: reversal(wanted))
        return [with_machine(bench, rest, line[2], turned)]
    if kind == "choose":
        yes = with_machine(bench, rest, line[2], _pattern(bench, book, line[3]))
        no = with_machine(bench, rest, line[2], _opposite_of(bench, book, line[3]))
        return [with_machine(bench, yes, line[4], wanted), with_machine(bench, no, line[5], wanted)]
    return _over_join(bench, line[2], rest, wanted)


def _pattern(bench, book, name):
    """Returns the machine of the pattern."""
    return bench.once(("pattern", name), lambda: book.machine(name))


def _opposite_of(bench, book, name):
    """Returns the machine of the texts that do not belong to the pattern."""
    return bench.once(("outside", name), lambda: opposite(book.machine(name)))


def _domain(bench, book, name):
    """Returns the machine of the texts that the rewriter does not refuse."""
    return bench.once(("domain", name), lambda: domain(book.rewriter(name)))


def _rewritten(bench, book, name, wanted):
    """Returns the machine of the texts of which the rewriter makes wanted ones, or, with None, any at all."""
    if wanted is None:
        return _domain(bench, book, name)
    return bench.once(("before", name, wanted), lambda: before_image(book.rewriter(name), wanted))


def _over_join(bench, parts, rest, wanted):
    """Returns the demands for the parts of a join of which the machine `wanted` accepts the joined texts."""
    texts, names = _texts_and_names(parts)
    if not names:
        return [rest] if wanted.accepts(texts[0]) else []
    begun = [(rest, wanted.run(texts[0]))]
    for name, text in zip(names[:-1], texts[1:]):
        longer = []
        for demand, state in begun:
            for goal in bench.useful_states(wanted):
                more = with_machine(bench, demand, name, bench.leading(wanted, state, (goal,)))
                if can_be_met(bench, more):
                    longer.append((more, wanted.run_from(goal, text)))
        begun = longer
    states = range(len(wanted.table))
    goals = tuple([state for state in states if wanted.accepting[wanted.run_from(state, texts[-1])]])
    return [with_machine(bench, demand, names[-1], bench.leading(wanted, state, goals)) for demand, state in begun]


def _texts_and_names(parts):
    """Returns the names of the parts, and the texts in front of, between and behind them."""
    texts = [""]
    names = []
    for kind, part in parts:
        if kind == "text":
            texts[-1] += part
        else:
            names.append(part)
            texts.append("")
    return (texts, names)
