"""Machines of the texts that two machines accept together, or that lead to or from a state.

All of them are least machines.
"""

from anytext.machines.least import least, least_explored, least_from
from anytext.machines.machine import Machine


def both(first, second):
    """Returns the machine of the texts that both accept."""
    return _paired(first, second, lambda one, other: one and other)


def either(first, second):
    """Returns the machine of the texts that one of them accepts at least."""
    return _paired(first, second, lambda one, other: one or other)


def minus(first, second):
    """Returns the machine of the texts that the first accepts and the second does not."""
    return _paired(first, second, lambda one, other: one and not other)


def opposite(machine):
    """Returns the machine of the texts that the machine does not accept."""
    return least(Machine(machine.letters, [not accepting for accepting in machine.accepting], machine.table))


def until(machine, state):
    """Returns the machine of the texts that lead from state 0 to the state."""
    return between(machine, 0, (state,))


def between(machine, state, goals):
    """Returns the machine of the texts that lead from the state to one of the goals."""
    accepting = [False for _ in machine.table]
    for goal in goals:
        accepting[goal] = True
    return least_from(Machine(machine.letters, accepting, machine.table), state)


def since(machine, state):
    """Returns the machine of the texts that lead from the state to an accepting one."""
    return least_from(machine, state)


def _paired(first, second, chosen):
    """Returns the machine of the texts of which `chosen` takes what the two machines tell."""

    def step(pair, index):
        return (first.table[pair[0]][index], second.table[pair[1]][index])

    def accepts(pair):
        return chosen(first.accepting[pair[0]], second.accepting[pair[1]])

    return least_explored(first.letters, (0, 0), step, accepts)
