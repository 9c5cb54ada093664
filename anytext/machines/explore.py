"""Going from state to state, where states are keys that are told only when they are reached.

`step` tells the next key for a key and the index of a letter, `accepts` whether a key is accepting.
"""

from anytext.machines.machine import Machine


def explored(letters, start, step, accepts):
    """Returns the machine of all keys to which `step` leads from the key `start`.

    The states stand in the order of the least texts that lead to them.
    """
    numbers = {start: 0}
    keys = [start]
    table = []
    while len(table) < len(keys):
        row = []
        for index in range(len(letters)):
            key = step(keys[len(table)], index)
            if key not in numbers:
                numbers[key] = len(keys)
                keys.append(key)
            row.append(numbers[key])
        table.append(row)
    return Machine(letters, [accepts(key) for key in keys], table)


def least_way(letters, start, step, accepts):
    """Returns the least text that leads from the key `start` to an accepting key, or None if there is none."""
    known = {start: True}
    keys = [start]
    # For each key the number of the key before it and the letter between them: all texts would take more room.
    origins = [(0, "")]
    number = 0
    while number < len(keys):
        if accepts(keys[number]):
            return _text_to(origins, number)
        for index, letter in enumerate(letters):
            key = step(keys[number], index)
            if key not in known:
                known[key] = True
                keys.append(key)
                origins.append((number, letter))
        number += 1
    return None


def _text_to(origins, number):
    """Returns the text that leads from the first key to the one with this number."""
    found = []
    while number > 0:
        number, letter = origins[number]
        found.append(letter)
    return "".join(reversed(found))
