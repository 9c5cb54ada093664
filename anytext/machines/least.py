"""The least machine of the texts that a machine accepts."""

from anytext.machines.blocks import Blocks
from anytext.machines.explore import explored
from anytext.machines.machine import Machine
from anytext.machines.ways import ways_back


def least(machine):
    """Returns the least machine of the texts that the machine accepts."""
    return least_from(machine, 0)


def least_from(machine, start):
    """Returns the least machine of the texts that lead from the state `start` to an accepting state."""
    return least_explored(
        machine.letters,
        start,
        lambda state, index: machine.table[state][index],
        lambda state: machine.accepting[state],
    )


def least_explored(letters, start, step, accepts):
    """Returns the least machine of the texts that the explored machine accepts."""
    return _merged(explored(letters, start, step, accepts))


def _merged(machine):
    """Returns the machine with one state for all states behind which the same texts are accepted.

    The states of the machine stand in the order of the least texts that lead to them,
    so the first states of the blocks stand in the order that the least machine needs.
    """
    blocks = _stable_blocks(machine)
    numbers = {}
    firsts = []
    for state, block in enumerate(blocks.block_of):
        if block not in numbers:
            numbers[block] = len(firsts)
            firsts.append(state)
    return Machine(
        machine.letters,
        [machine.accepting[state] for state in firsts],
        [[numbers[blocks.block_of[after]] for after in machine.table[state]] for state in firsts],
    )


def _stable_blocks(machine):
    """Returns the blocks of the states behind which the same texts are accepted."""
    blocks = Blocks(len(machine.accepting))
    for state, accepting in enumerate(machine.accepting):
        if accepting:
            blocks.mark(state)
    blocks.cut()
    sources = [sources_by(machine, index) for index in range(len(machine.letters))]
    waiting = list(range(len(blocks.starts)))
    while waiting:
        # A letter leads from a state to one goal only, so no state is marked twice before the cut.
        goals = blocks.states_in(waiting.pop())
        for sources_of in sources:
            for goal in goals:
                for source in sources_of[goal]:
                    blocks.mark(source)
            waiting.extend(blocks.cut())
    return blocks


def sources_by(machine, index):
    """Returns for each state the states from which the letter with this index leads to it."""
    return ways_back([[row[index]] for row in machine.table])
