"""What several tests need: plain second ways to tell the same things."""

import itertools
import random

from anytext.letters.alphabet import order_key, texts_of
from anytext.machines.machine import Machine
from anytext.programs.program import Program
from anytext.rewriters.rewriter import Rewriter

LEAF_KINDS = ("none", "empty", "one")
ONE_PART = ("not", "star")
TWO_PARTS = ("join", "either", "both")


def texts_up_to(letters, length):
    """All texts of up to this length, in order."""
    return [text for many in range(length + 1) for text in texts_of(letters, many)]


def plainly_belongs(pattern, text, known=None):
    """Point 2.1, word by word, on texts of a few letters."""
    known = {} if known is None else known
    key = (pattern, text)
    if key not in known:
        known[key] = _plainly(pattern, text, known)
    return known[key]


def _plainly(pattern, text, known):
    kind, parts = pattern[0], pattern[1:]
    if kind == "none":
        return False
    if kind == "empty":
        return text == ""
    if kind == "one":
        return len(text) == 1 and text in parts[0]
    if kind == "not":
        return not plainly_belongs(parts[0], text, known)
    if kind == "either":
        return plainly_belongs(parts[0], text, known) or plainly_belongs(parts[1], text, known)
    if kind == "both":
        return plainly_belongs(parts[0], text, known) and plainly_belongs(parts[1], text, known)
    splits = [(text[:place], text[place:]) for place in range(len(text) + 1)]
    if kind == "join":
        return any(plainly_belongs(parts[0], head, known) and plainly_belongs(parts[1], tail, known)
                   for head, tail in splits)
    return text == "" or any(plainly_belongs(parts[0], head, known) and plainly_belongs(pattern, tail, known)
                             for head, tail in splits if head != "")


def random_pattern(rng, letters, depth):
    """A pattern whose terms are nested at most so deep."""
    if depth == 0 or rng.random() < 0.1:
        kept = "".join(letter for letter in letters if rng.random() < 0.6)
        leaves = [("none",), ("empty",)] + [("one", kept or letters[-1])] * 6
        return rng.choice(leaves)
    kind = rng.choice(ONE_PART + TWO_PARTS + ("join",))
    many = 1 if kind in ONE_PART else 2
    return (kind,) + tuple(random_pattern(rng, letters, depth - 1) for _ in range(many))


def seeded(number):
    """A source of choices that are the same in each run."""
    return random.Random(number)


def reason(call, *arguments):
    """The class and the `what` of the error that the call raises, or None if it raises none."""
    try:
        call(*arguments)
    except ValueError as error:
        return (type(error), error.what)
    return None


def least_texts(machine):
    """For each state that some text leads to, the least one, in the order of these texts."""
    found = {0: ""}
    texts = [""]
    while texts:
        longer = sorted([text + letter for text in texts for letter in machine.letters],
                        key=lambda text: order_key(machine.letters, text))
        texts = []
        for text in longer:
            if machine.run(text) not in found:
                found[machine.run(text)] = text
                texts.append(text)
    return found


def pairs_that_differ(machine):
    """The pairs of states behind which different texts are accepted."""
    states = range(len(machine.accepting))
    pairs = {(one, other) for one in states for other in states
             if machine.accepting[one] != machine.accepting[other]}
    while True:
        more = {(one, other) for one in states for other in states
                if any(pair in pairs for pair in zip(machine.table[one], machine.table[other]))}
        if more <= pairs:
            return pairs
        pairs |= more


def is_least(machine):
    """Point 3.2, word by word: no state more than needed, and all of them in order."""
    states = list(range(len(machine.accepting)))
    differ = pairs_that_differ(machine)
    return list(least_texts(machine)) == states and all(
        (one, other) in differ for one in states for other in states if one != other)


def accepted(machine, length):
    """The accepted texts of up to this length."""
    return [text for text in texts_up_to(machine.letters, length) if machine.accepts(text)]


def random_machine(rng, letters, states):
    """A machine with so many states; some of them may be of no use."""
    return Machine(letters, [rng.random() < 0.4 for _ in range(states)],
                   [[rng.randrange(states) for _ in letters] for _ in range(states)])


def random_text(rng, letters, most):
    """A text of up to so many letters."""
    return "".join(rng.choice(letters) for _ in range(rng.randint(0, most)))


def random_rewriter(rng, letters, states, refusing=0.15, most=2):
    """A rewriter with so many states that writes at most so many letters at once."""
    def perhaps(make):
        return None if rng.random() < refusing else make()

    def way():
        return (rng.randrange(states), random_text(rng, letters, most))

    return Rewriter(letters, random_text(rng, letters, most),
                    [perhaps(lambda: random_text(rng, letters, most)) for _ in range(states)],
                    [[perhaps(way) for _ in letters] for _ in range(states)])


def plainly_rewritten(rewriter, text):
    """Point 4.1, word by word, from the picture of the rewriter."""
    letters, written, finals, table = rewriter.picture()
    state = 0
    for letter in text:
        way = table[state][letters.index(letter)]
        if way is None:
            return None
        state = way[0]
        written += way[1]
    return None if finals[state] is None else written + finals[state]


def renumbered(rng, machine):
    """A machine that is the same but for the numbers of its states other than 0."""
    states = list(range(1, len(machine.accepting)))
    order = [0] + rng.sample(states, len(states))
    numbers = {state: number for number, state in enumerate(order)}
    return Machine(machine.letters, [machine.accepting[state] for state in order],
                   [[numbers[after] for after in machine.table[state]] for state in order])


def doubled(machine):
    """A machine with each state twice, of which the letters lead to one or the other by turns."""
    states = len(machine.accepting)
    table = []
    for shift in (0, 1):
        for row in machine.table:
            table.append([after + states * ((index + shift) % 2) for index, after in enumerate(row)])
    return Machine(machine.letters, machine.accepting * 2, table)


def renumbered_rewriter(rng, rewriter):
    """A rewriter that is the same but for the numbers of its states other than 0."""
    states = list(range(1, len(rewriter.finals)))
    order = [0] + rng.sample(states, len(states))
    numbers = {state: number for number, state in enumerate(order)}
    return Rewriter(rewriter.letters, rewriter.lead, [rewriter.finals[state] for state in order],
                    [[None if way is None else (numbers[way[0]], way[1]) for way in rewriter.table[state]]
                     for state in order])


def doubled_rewriter(rewriter):
    """A rewriter with each state twice, of which the letters lead to one or the other by turns."""
    states = len(rewriter.finals)
    table = []
    for shift in (0, 1):
        for row in rewriter.table:
            table.append([None if way is None else (way[0] + states * ((index + shift) % 2), way[1])
                          for index, way in enumerate(row)])
    return Rewriter(rewriter.letters, rewriter.lead, rewriter.finals * 2, table)


def with_lost_states(rng, rewriter):
    """A rewriter with two more states that only refuse, to which some letters lead that had nothing."""
    states = len(rewriter.finals)

    def way_to_lost():
        return rng.choice([None, (states, random_text(rng, rewriter.letters, 2)),
                           (states + 1, random_text(rng, rewriter.letters, 2))])

    table = [[way_to_lost() if way is None else way for way in row] for row in rewriter.table]
    table += [[way_to_lost() for _ in rewriter.letters] for _ in range(2)]
    return Rewriter(rewriter.letters, rewriter.lead, rewriter.finals + (None, None), table)


def held_back(rewriter, many):
    """A rewriter that does the same, but always keeps the last letters, up to so many, to write them later."""
    def split(text):
        place = max(0, len(text) - many)
        return text[:place], text[place:]

    lead, kept = split(rewriter.lead)
    keys, finals, table = [(0, kept)], [], []
    while len(table) < len(keys):
        state, kept = keys[len(table)]
        row = []
        for way in rewriter.table[state]:
            if way is None:
                row.append(None)
                continue
            now, later = split(kept + way[1])
            if (way[0], later) not in keys:
                keys.append((way[0], later))
            row.append((keys.index((way[0], later)), now))
        final = rewriter.finals[state]
        finals.append(None if final is None else kept + final)
        table.append(row)
    return Rewriter(rewriter.letters, lead, finals, table)


def variants(rng, rewriter):
    """Rewriters that do the same, each in another way."""
    first = [renumbered_rewriter(rng, rewriter), doubled_rewriter(rewriter), with_lost_states(rng, rewriter),
             held_back(rewriter, 1), held_back(rewriter, 2)]
    return first + [renumbered_rewriter(rng, doubled_rewriter(with_lost_states(rng, held_back(rewriter, 1))))]


def shared_beginning(texts):
    """The longest common beginning, letter by letter."""
    found = ""
    for letters in zip(*texts):
        if len(set(letters)) > 1:
            break
        found += letters[0]
    return found


def plainly_run(patterns, rewriters, program, inputs):
    """Point 5.2, word by word: the answer, and the names with their texts."""
    texts = dict(zip(program.inputs, inputs))
    for index, line in enumerate(program.lines):
        kind, rest = line[0], line[1:]
        if kind == "join":
            made = "".join(text if sort == "text" else texts[text] for sort, text in rest[1])
        elif kind == "turn":
            made = "".join(reversed(texts[rest[1]]))
        elif kind == "rewrite":
            made = plainly_rewritten(rewriters[rest[1]], texts[rest[2]])
        elif kind == "choose":
            made = texts[rest[3] if plainly_belongs(patterns[rest[2]], texts[rest[1]]) else rest[4]]
        else:
            made = None if not plainly_belongs(patterns[rest[1]], texts[rest[0]]) else ""
        if made is None:
            return ("refuses", index), list(texts.items())
        if kind != "need":
            texts[rest[0]] = made
    return ("gives", texts[program.result]), list(texts.items())


def random_program(rng, many, patterns, rewriters, inputs=3, parts=3):
    """A program that is in order, with so many lines, and at most so many inputs and parts of a join."""
    names = ["x", "y", "z"][:rng.randint(1, inputs)]
    found, lines = tuple(names), []
    for index in range(many):
        name, kind = "abcdefghijkl"[index], rng.choice(("join", "join", "turn", "rewrite", "choose", "need"))
        pattern = rng.choice(sorted(patterns))
        if kind == "join":
            some = [rng.choice((("text", rng.choice(("", "a", "ba"))), ("name", rng.choice(names)),
                                ("name", rng.choice(names)))) for _ in range(rng.randint(1, parts))]
            lines.append((kind, name, tuple(some)))
        elif kind == "turn":
            lines.append((kind, name, rng.choice(names)))
        elif kind == "rewrite":
            lines.append((kind, name, rng.choice(sorted(rewriters)), rng.choice(names)))
        elif kind == "choose":
            lines.append((kind, name, rng.choice(names), pattern, rng.choice(names), rng.choice(names)))
        else:
            lines.append((kind, rng.choice(names), pattern))
        if kind != "need":
            names.append(name)
    return Program(found, lines, rng.choice(names[-2:]))


def inputs_up_to(letters, many, total):
    """All so many inputs with so many letters together at most, in the order of point 6.2."""
    texts = texts_up_to(letters, total)
    found = [inputs for inputs in itertools.product(texts, repeat=many) if sum(map(len, inputs)) <= total]
    return sorted(found, key=lambda inputs: (sum(map(len, inputs)), [order_key(letters, text) for text in inputs]))
