"""Counting accepted texts, and the places of texts among them.

Texts are counted all at once: a dict tells for each state how many texts of one length lead to it.
"""

from anytext.machines.search import useful


def count(machine, length):
    """Returns how many texts with this length are accepted."""
    many = {0: 1}
    for _ in range(length):
        many = _longer(machine, many)
    return _accepted(machine, many)


def place_of(machine, text):
    """Returns how many accepted texts come before the text."""
    before = 0
    shorter = {0: 1}
    # Of the texts that are as long as what was read so far, those that come before it.
    smaller = {}
    state = 0
    for letter in text:
        before += _accepted(machine, shorter)
        shorter = _longer(machine, shorter)
        smaller = _longer(machine, smaller)
        index = machine.letters.index(letter)
        for after in machine.table[state][:index]:
            smaller[after] = smaller.get(after, 0) + 1
        state = machine.table[state][index]
    return before + _accepted(machine, smaller)


def text_at(machine, place):
    """Returns the accepted text before which exactly so many accepted texts come, or None."""
    # Only texts that lead on to accepted ones are followed: they are few until the wanted one is near.
    kept = {state: True for state in useful(machine)}
    layers = [{0: 1}] if 0 in kept else [{}]
    left = place
    while len(layers[-1]) > 0:
        here = _accepted(machine, layers[-1])
        if left < here:
            return _text_through(machine, layers, left)
        left -= here
        longer = _longer(machine, layers[-1])
        layers.append({state: longer[state] for state in longer if state in kept})
    return None


def _longer(machine, many):
    """Returns how many texts lead to each state when each text has one letter more."""
    found = {}
    for state in many:
        for after in machine.table[state]:
            found[after] = found.get(after, 0) + many[state]
    return found


def _accepted(machine, many):
    """Returns how many of these texts are accepted."""
    return sum([many[state] for state in many if machine.accepting[state]])


def _text_through(machine, layers, left):
    """Returns the accepted text through all these layers before which `left` other ones come."""
    state = 0
    found = []
    for ends in _ends_behind(machine, layers)[1:]:
        index = 0
        while left >= ends.get(machine.table[state][index], 0):
            left -= ends.get(machine.table[state][index], 0)
            index += 1
        state = machine.table[state][index]
        found.append(machine.letters[index])
    return "".join(found)


def _ends_behind(machine, layers):
    """Returns, for each layer, how many accepted texts go on from each of its states through the rest of them."""
    ends = {state: 1 for state in layers[-1] if machine.accepting[state]}
    found = [ends]
    for layer in reversed(layers[:-1]):
        ends = _sums_of_next(machine, layer, ends)
        found.append(ends)
    found.reverse()
    return found


def _sums_of_next(machine, layer, ends):
    """Returns for each state of the layer the sum of what its next states have."""
    return {state: sum([ends.get(after, 0) for after in machine.table[state]]) for state in layer}
