"""What several tests need: plain second ways to tell the same things."""

import random

from anytext.letters.alphabet import order_key, texts_of
from anytext.machines.machine import Machine

LEAF_KINDS = ("none", "empty", "one")
ONE_PART = ("not", "star")
TWO_PARTS = ("join", "either", "both")


def texts_up_to(letters, length):
    """All texts of up to this length, in order."""
    return [text for many in range(length + 1) for text in texts_of(letters, many)]


def plainly_belongs(pattern, text, known=None):
    """Point 2.1, word by word, on texts of a few letters."""
    known = {} if known is None else known
    key = (pattern, text)
    if key not in known:
        known[key] = _plainly(pattern, text, known)
    return known[key]


def _plainly(pattern, text, known):
    kind, parts = pattern[0], pattern[1:]
    if kind == "none":
        return False
    if kind == "empty":
        return text == ""
    if kind == "one":
        return len(text) == 1 and text in parts[0]
    if kind == "not":
        return not plainly_belongs(parts[0], text, known)
    if kind == "either":
        return plainly_belongs(parts[0], text, known) or plainly_belongs(parts[1], text, known)
    if kind == "both":
        return plainly_belongs(parts[0], text, known) and plainly_belongs(parts[1], text, known)
    splits = [(text[:place], text[place:]) for place in range(len(text) + 1)]
    if kind == "join":
        return any(plainly_belongs(parts[0], head, known) and plainly_belongs(parts[1], tail, known)
                   for head, tail in splits)
    return text == "" or any(plainly_belongs(parts[0], head, known) and plainly_belongs(pattern, tail, known)
                             for head, tail in splits if head != "")


def random_pattern(rng, letters, depth):
    """A pattern whose terms are nested at most so deep."""
    if depth == 0 or rng.random() < 0.1:
        kept = "".join(letter for letter in letters if rng.random() < 0.6)
        leaves = [("none",), ("empty",)] + [("one", kept or letters[-1])] * 6
        return rng.choice(leaves)
    kind = rng.choice(ONE_PART + TWO_PARTS + ("join",))
    many = 1 if kind in ONE_PART else 2
    return (kind,) + tuple(random_pattern(rng, letters, depth - 1) for _ in range(many))


def seeded(number):
    """A source of choices that are the same in each run."""
    return random.Random(number)


def reason(call, *arguments):
    """The class and the `what` of the error that the call raises, or None if it raises none."""
    try:
        call(*arguments)
    except ValueError as error:
        return (type(error), error.what)
    return None


def least_texts(machine):
    """For each state that some text leads to, the least one, in the order of these texts."""
    found = {0: ""}
    texts = [""]
    while texts:
        longer = sorted([text + letter for text in texts for letter in machine.letters],
                        key=lambda text: order_key(machine.letters, text))
        texts = []
        for text in longer:
            if machine.run(text) not in found:
                found[machine.run(text)] = text
                texts.append(text)
    return found


def pairs_that_differ(machine):
    """The pairs of states behind which different texts are accepted."""
    states = range(len(machine.accepting))
    pairs = {(one, other) for one in states for other in states
             if machine.accepting[one] != machine.accepting[other]}
    while True:
        more = {(one, other) for one in states for other in states
                if any(pair in pairs for pair in zip(machine.table[one], machine.table[other]))}
        if more <= pairs:
            return pairs
        pairs |= more


def is_least(machine):
    """Point 3.2, word by word: no state more than needed, and all of them in order."""
    states = list(range(len(machine.accepting)))
    differ = pairs_that_differ(machine)
    return list(least_texts(machine)) == states and all(
        (one, other) in differ for one in states for other in states if one != other)


def accepted(machine, length):
    """The accepted texts of up to this length."""
    return [text for text in texts_up_to(machine.letters, length) if machine.accepts(text)]


def random_machine(rng, letters, states):
    """A machine with so many states; some of them may be of no use."""
    return Machine(letters, [rng.random() < 0.4 for _ in range(states)],
                   [[rng.randrange(states) for _ in letters] for _ in range(states)])
