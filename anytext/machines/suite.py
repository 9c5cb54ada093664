"""The suite of a machine: texts that tell it from all machines that are hardly larger."""

from anytext.letters.alphabet import order_key, texts_of
from anytext.machines.explore import least_way
from anytext.machines.least import least


def suite(machine, extra):
    """Returns the list of the texts of the suite, in order, each once."""
    small = least(machine)
    letters = small.letters
    middles = [middle for length in range(extra + 2) for middle in texts_of(letters, length)]
    tails = _parting_texts(small)
    found = {}
    for head in _texts_to_states(small):
        for middle in middles:
            for tail in tails:
                found[head + middle + tail] = True
    return [pair[1] for pair in sorted([(order_key(letters, text), text) for text in found])]


def _texts_to_states(small):
    """Returns for each state of a least machine the least text that leads there."""
    # The states are numbered in the order of these texts, so each new one belongs to the next state.
    texts = [""]
    for state, row in enumerate(small.table):
        for letter, after in zip(small.letters, row):
            if after == len(texts):
                texts.append(texts[state] + letter)
    return texts


def _parting_texts(small):
    """Returns, each once, the least texts that are accepted from exactly one of two states of a least machine."""

    def step(pair, index):
        return (small.table[pair[0]][index], small.table[pair[1]][index])

    def accepts(pair):
        return small.accepting[pair[0]] != small.accepting[pair[1]]

    if len(small.table) == 1:
        return [""]
    found = {}
    for one in range(len(small.table)):
        for other in range(one):
            found[least_way(small.letters, (one, other), step, accepts)] = True
    return list(found)
