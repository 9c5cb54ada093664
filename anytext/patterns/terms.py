"""Patterns as terms: their parts and their size."""

LEAVES = ("none", "empty", "one")


def parts_of(term):
    """Returns the terms that stand directly in the term."""
    if term[0] in LEAVES:
        return ()
    return term[1:]


def size(pattern):
    """Returns the number of the terms of the pattern, itself included."""
    many = 0
    waiting = [pattern]
    while waiting:
        term = waiting.pop()
        many += 1
        waiting.extend(parts_of(term))
    return many


def flat_terms(pattern):
    """Returns the different terms of the pattern, parts before wholes, with their indexes in the place of parts.

    Patterns may be nested deeper than calls or the keys of a dict may be, so whoever
    works on a pattern goes through this list.
    """
    numbers = {}
    done = []
    waiting = [(pattern, False)]
    while waiting:
        term, has_parts = waiting.pop()
        parts = parts_of(term)
        if parts and not has_parts:
            waiting.append((term, True))
            waiting.extend([(part, False) for part in reversed(parts)])
        else:
            first = len(done) - len(parts)
            flat = (term[0],) + tuple(done[first:]) if parts else term
            del done[first:]
            done.append(numbers.setdefault(flat, len(numbers)))
    return list(numbers)
