"""Which texts belong to a pattern."""

from anytext.patterns.terms import flat_terms


def belongs(pattern, text):
    """Tells whether the text belongs to the pattern."""
    known = []
    for term in flat_terms(pattern):
        known.append(_ends_of(term, known, text))
    return (known[-1][0] >> len(text)) & 1 == 1


def _ends_of(term, known, text):
    """Returns, for each place, the ends of the texts that begin there and belong to the term.

    Ends are bits of a number, so that a place has all of its ends at once.
    """
    behind_all = 1 << (len(text) + 1)
    starts = range(len(text) + 1)
    kind = term[0]
    if kind == "none":
        return [0 for _ in starts]
    if kind == "empty":
        return [1 << start for start in starts]
    if kind == "one":
        return _letter_ends(term[1], text)
    first = known[term[1]]
    if kind == "not":
        return [behind_all - (1 << start) - first[start] for start in starts]
    if kind == "star":
        return _star_ends(first)
    second = known[term[2]]
    if kind == "join":
        return [_ends_behind(first[start], second) for start in starts]
    if kind == "both":
        return [first[start] & second[start] for start in starts]
    return [first[start] | second[start] for start in starts]


def _letter_ends(kept, text):
    """Returns the ends of the single letters that are kept; behind the text there is none."""
    return [2 << place if letter in kept else 0 for place, letter in enumerate(text)] + [0]


def _star_ends(part):
    """Returns the ends of the texts that are several texts of the part."""
    ends = [0] * len(part)
    for start in reversed(range(len(part))):
        here = 1 << start
        # An empty text of the part leads nowhere new, so only the later ends count.
        ends[start] = here | _ends_behind(part[start] & ~here, ends)
    return ends


def _ends_behind(places, ends):
    """Returns the ends of all these places together."""
    found = 0
    while places:
        place = places.bit_length() - 1
        found |= ends[place]
        places -= 1 << place
    return found
