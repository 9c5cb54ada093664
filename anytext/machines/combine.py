"""Machines of the texts that two machines accept together. All of them are least machines."""

from anytext.machines.least import least, least_explored
from anytext.machines.machine import Machine


def both(first, second):
    """Returns the machine of the texts that both accept."""
    return _paired(first, second, lambda one, other: one and other)


def either(first, second):
    """Returns the machine of the texts that one of them accepts at least."""
    return _paired(first, second, lambda one, other: one or other)


def opposite(machine):
    """Returns the machine of the texts that the machine does not accept."""
    return least(Machine(machine.letters, [not accepting for accepting in machine.accepting], machine.table))


def _paired(first, second, chosen):
    """Returns the machine of the texts of which `chosen` takes what the two machines tell."""

    def step(pair, index):
        return (first.table[pair[0]][index], second.table[pair[1]][index])

    def accepts(pair):
        return chosen(first.accepting[pair[0]], second.accepting[pair[1]])

    return least_explored(first.letters, (0, 0), step, accepts)
