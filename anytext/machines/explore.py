"""Machines that are made by going from state to state."""

from anytext.machines.machine import Machine


def explored(letters, start, step, accepts):
    """Returns the machine of all keys to which `step` leads from the key `start`.

    `step` tells the next key for a key and the index of a letter, `accepts` whether
    a key is accepting. The states stand in the order of the least texts that lead to them.
    """
    numbers = {start: 0}
    keys = [start]
    table = []
    while len(table) < len(keys):
        row = []
        for index in range(len(letters)):
            key = step(keys[len(table)], index)
            if key not in numbers:
                numbers[key] = len(keys)
                keys.append(key)
            row.append(numbers[key])
        table.append(row)
    return Machine(letters, [accepts(key) for key in keys], table)
