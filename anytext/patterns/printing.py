"""Printing patterns in their notation."""

from anytext.patterns.terms import flat_terms

# How strongly a term holds together. The place on its left, or its only one, asks for as much as that,
# and the place on its right for one more, since reading groups from the left.
STRENGTHS = {"either": 0, "both": 1, "join": 2, "not": 3, "star": 4}
STRONGEST = 5
SIGNS = {"either": "|", "both": "&", "join": ""}


def print_pattern(letters, pattern):
    """Returns the notation of the pattern."""
    printed = []
    for term in flat_terms(pattern):
        strength = STRENGTHS.get(term[0], STRONGEST)
        printed.append((_notation(letters, term, strength, printed), strength))
    return printed[-1][0]


def _notation(letters, term, strength, printed):
    """Returns the notation of a flat term.

    `printed` has the notations of the terms before it, with their strengths.
    """
    kind = term[0]
    if kind == "none":
        return "[]"
    if kind == "empty":
        return "()"
    if kind == "one":
        return _notation_of_letters(letters, term[1])
    first = _placed(printed[term[1]], strength)
    if kind == "not":
        return "!" + first
    if kind == "star":
        return first + "*"
    return first + SIGNS[kind] + _placed(printed[term[2]], strength + 1)


def _notation_of_letters(letters, kept):
    """Returns the notation of the single letters that are kept."""
    if len(kept) == 1:
        return kept
    if kept == letters:
        return "."
    return "[" + kept + "]"


def _placed(part, asked):
    """Returns the notation of the part, in brackets if its place asks for more strength than it has."""
    notation, strength = part
    return "(" + notation + ")" if strength < asked else notation
