"""Deciding claims: the inputs that break them, or a paper that shows that there are none."""

from anytext.claims.back import led_back, refused, wrong_end
from anytext.claims.bench import Bench
from anytext.claims.claim import check_claim
from anytext.claims.demands import can_be_met, fewer, with_machine
from anytext.letters.alphabet import order_key
from anytext.machines.combine import either
from anytext.machines.machine import Machine
from anytext.machines.search import first_text


def decide(book, program, claim):
    """Returns ("holds", paper), or ("broken", inputs) with the least inputs that break the claim."""
    check_claim(book, program, claim)
    bench = Bench(book.letters)
    places = _demands_at_places(bench, book, program, claim)
    lots = _breaking_lots(bench, book, program, claim, places[0])
    if lots:
        return ("broken", _least_inputs(book.letters, lots))
    return ("holds", tuple([tuple([_triples(demand) for demand in demands]) for demands in places]))


def breaking(book, program, claim):
    """Returns the list of tuples of machines, of one of which each accepts its input if the inputs break the claim."""
    check_claim(book, program, claim)
    bench = Bench(book.letters)
    return _breaking_lots(bench, book, program, claim, _demands_at_places(bench, book, program, claim)[0])


def breaking_machine(book, program, claim):
    """Returns the least machine of the texts that break the claim about a program with one input."""
    found = Machine(book.letters, [False], [[0 for _ in book.letters]])
    for lot in breaking(book, program, claim):
        found = either(found, lot[0])
    return found


def _demands_at_places(bench, book, program, claim):
    """Returns, for the beginning and behind each line, the demands that the runs meet that go on to break the claim."""
    places = [fewer(bench, [wrong_end(bench, book, program, claim)])]
    for line in reversed(program.lines):
        demands = [] if claim.refusals else refused(bench, book, line)
        for demand in places[-1]:
            demands.extend(led_back(bench, book, line, demand))
        places.append(fewer(bench, demands))
    places.reverse()
    return places


def _breaking_lots(bench, book, program, claim, demands):
    """Returns the tuples of machines for the inputs that belong to their patterns and meet one of the demands."""
    found = []
    for demand in demands:
        asked = demand
        for name, pattern in zip(program.inputs, claim.inputs):
            asked = with_machine(bench, asked, name, bench.kept(book.machine(pattern)))
        if can_be_met(bench, asked):
            found.append(tuple([asked[name] for name in program.inputs]))
    return found


def _least_inputs(letters, lots):
    """Returns the least inputs that the machines of one of the tuples accept."""
    found = []
    for lot in lots:
        # The least texts are the shortest ones, too, so together they are the least inputs of this tuple.
        texts = [first_text(machine) for machine in lot]
        keys = [order_key(letters, text) for text in texts]
        found.append((sum([len(text) for text in texts]), keys, tuple(texts)))
    return min(found)[2]


def _triples(demand):
    """Returns the demand as it stands in a paper."""
    return tuple([(name, demand[name].accepting, demand[name].table) for name in sorted(demand)])
