"""What several tests need: plain second ways to tell the same things."""

import random

from anytext.letters.alphabet import texts_of

LEAF_KINDS = ("none", "empty", "one")
ONE_PART = ("not", "star")
TWO_PARTS = ("join", "either", "both")


def texts_up_to(letters, length):
    """All texts of up to this length, in order."""
    return [text for many in range(length + 1) for text in texts_of(letters, many)]


def plainly_belongs(pattern, text, known=None):
    """Point 2.1, word by word, on texts of a few letters."""
    known = {} if known is None else known
    key = (pattern, text)
    if key not in known:
        known[key] = _plainly(pattern, text, known)
    return known[key]


def _plainly(pattern, text, known):
    kind, parts = pattern[0], pattern[1:]
    if kind == "none":
        return False
    if kind == "empty":
        return text == ""
    if kind == "one":
        return len(text) == 1 and text in parts[0]
    if kind == "not":
        return not plainly_belongs(parts[0], text, known)
    if kind == "either":
        return plainly_belongs(parts[0], text, known) or plainly_belongs(parts[1], text, known)
    if kind == "both":
        return plainly_belongs(parts[0], text, known) and plainly_belongs(parts[1], text, known)
    splits = [(text[:place], text[place:]) for place in range(len(text) + 1)]
    if kind == "join":
        return any(plainly_belongs(parts[0], head, known) and plainly_belongs(parts[1], tail, known)
                   for head, tail in splits)
    return text == "" or any(plainly_belongs(parts[0], head, known) and plainly_belongs(pattern, tail, known)
                             for head, tail in splits if head != "")


def random_pattern(rng, letters, depth):
    """A pattern whose terms are nested at most so deep."""
    if depth == 0 or rng.random() < 0.1:
        kept = "".join(letter for letter in letters if rng.random() < 0.6)
        leaves = [("none",), ("empty",)] + [("one", kept or letters[-1])] * 6
        return rng.choice(leaves)
    kind = rng.choice(ONE_PART + TWO_PARTS + ("join",))
    many = 1 if kind in ONE_PART else 2
    return (kind,) + tuple(random_pattern(rng, letters, depth - 1) for _ in range(many))


def seeded(number):
    """A source of choices that are the same in each run."""
    return random.Random(number)


def reason(call, *arguments):
    """The class and the `what` of the error that the call raises, or None if it raises none."""
    try:
        call(*arguments)
    except ValueError as error:
        return (type(error), error.what)
    return None
