"""The machine of a pattern."""

from anytext.machines.combine import both, either, opposite
from anytext.machines.least import least
from anytext.machines.lots import chained_texts, repetition
from anytext.machines.machine import Machine
from anytext.patterns.terms import flat_terms


def machine_of(letters, pattern):
    """Returns the least machine of the texts that belong to the pattern."""
    machines = []
    for term in flat_terms(pattern):
        machines.append(_machine_of_term(letters, term, machines))
    return machines[-1]


def _machine_of_term(letters, term, machines):
    """Returns the machine of a flat term; `machines` has those of the terms before it."""
    kind = term[0]
    if kind in ("none", "empty", "one"):
        return _machine_of_leaf(letters, term)
    first = machines[term[1]]
    if kind == "not":
        return opposite(first)
    if kind == "star":
        return repetition(first)
    second = machines[term[2]]
    if kind == "join":
        return chained_texts(first, second)
    if kind == "both":
        return both(first, second)
    return either(first, second)


def _machine_of_leaf(letters, term):
    """Returns the machine of no text, of the empty text, or of single letters."""
    single, dead = 1, 2
    kept = term[1] if term[0] == "one" else ""
    from_empty = [single if letter in kept else dead for letter in letters]
    to_dead = [dead for _ in letters]
    accepting = [term[0] == "empty", kept != "", False]
    return least(Machine(letters, accepting, [from_empty, to_dead, to_dead]))
