"""The least machine of the texts that a machine accepts."""

from anytext.machines.blocks import block_numbers, first_states
from anytext.machines.explore import explored
from anytext.machines.machine import Machine
from anytext.machines.ways import ways_back


def least(machine):
    """Returns the least machine of the texts that the machine accepts."""
    return least_from(machine, 0)


def least_from(machine, start):
    """Returns the least machine of the texts that lead from the state `start` to an accepting state."""
    return least_explored(
        machine.letters,
        start,
        lambda state, index: machine.table[state][index],
        lambda state: machine.accepting[state],
    )


def least_explored(letters, start, step, accepts):
    """Returns the least machine of the texts that the explored machine accepts."""
    return _merged(explored(letters, start, step, accepts))


def _merged(machine):
    """Returns the machine with one state for all states behind which the same texts are accepted.

    The states of the machine stand in the order of the least texts that lead to them,
    so the first states of the blocks stand in the order that the least machine needs.
    """
    sources = [sources_by(machine, index) for index in range(len(machine.letters))]
    numbers = block_numbers(machine.accepting, sources)
    firsts = first_states(numbers)
    return Machine(
        machine.letters,
        [machine.accepting[state] for state in firsts],
        [[numbers[after] for after in machine.table[state]] for state in firsts],
    )


def sources_by(machine, index):
    """Returns for each state the states from which the letter with this index leads to it."""
    return ways_back([[row[index]] for row in machine.table])
