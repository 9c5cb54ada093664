"""Judging papers for claims."""

from anytext.claims.back import led_back, refused, wrong_end
from anytext.claims.bench import Bench
from anytext.claims.claim import check_claim
from anytext.claims.demands import can_be_met, covered_by_one, key_of
from anytext.errors import BadMachine
from anytext.machines.machine import Machine
from anytext.programs.program import names_given


def judge(book, program, claim, paper):
    """Tells whether the paper is taken."""
    check_claim(book, program, claim)
    bench = Bench(book.letters)
    if len(paper) != len(program.lines) + 1:
        return False
    places = _places_of_paper(bench, book, program, paper)
    if places is None:
        return False
    if not _all_covered(bench, places[-1], [wrong_end(bench, book, program, claim)]):
        return False
    for place, line in enumerate(program.lines):
        asked = [] if claim.refusals else refused(bench, book, line)
        for demand in places[place + 1]:
            asked.extend(led_back(bench, book, line, demand))
        if not _all_covered(bench, places[place], asked):
            return False
    return all([_no_inputs_meet(bench, book, program, claim, demand) for demand in places[0]])


def _places_of_paper(bench, book, program, paper):
    """Returns the lists of demands for the places of the paper, or None if some demand has no sense."""
    known = list(program.inputs)
    given = [names_given(line) for line in program.lines]
    found = []
    for place, names in zip(paper, [[]] + given):
        known.extend(names)
        demands = [_demand_of_triples(bench, book.letters, known, triples) for triples in place]
        if None in demands:
            return None
        found.append(demands)
    return found


def _demand_of_triples(bench, letters, known, triples):
    """Returns the demand of the triples, or None if it has no sense where only these names have a text."""
    found = {}
    for name, accepting, table in triples:
        if name not in known or name in found:
            return None
        try:
            machine = Machine(letters, accepting, table)
        except BadMachine:
            return None
        found[name] = bench.kept(machine)
    return found


def _all_covered(bench, demands, asked):
    """Tells whether each of the demands that are asked for, if it can be met, is covered by a single one."""
    known = {key_of(demand): demand for demand in asked if can_be_met(bench, demand)}
    return all([covered_by_one(bench, demands, known[key]) for key in known])


def _no_inputs_meet(bench, book, program, claim, demand):
    """Tells whether there is an input of whose pattern the demand takes no text."""
    for name, pattern in zip(program.inputs, claim.inputs):
        machine = demand.get(name, bench.all_texts)
        if bench.has_no_text(bench.meeting(bench.kept(book.machine(pattern)), machine)):
            return True
    return False
