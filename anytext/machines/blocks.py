"""Blocks of states: a partition that becomes finer and finer."""


def block_numbers(kinds, sources):
    """Returns for each state the number of its block, in the coarsest partition that keeps the kinds apart.

    `kinds` has a key for each state. `sources` has for each letter and each state the states from which the
    letter leads to it. States of a block have the same kind, and each letter leads from all of them to states
    of one block, or from none of them anywhere.
    The blocks are numbered in the order of their first states.
    """
    blocks = _blocks_of_kinds(kinds)
    waiting = list(range(len(blocks.starts)))
    while waiting:
        # A letter leads from a state to one goal only, so no state is marked twice before the cut.
        goals = blocks.states_in(waiting.pop())
        for sources_of in sources:
            for goal in goals:
                for source in sources_of[goal]:
                    blocks.mark(source)
            waiting.extend(blocks.cut())
    numbers = {}
    return [numbers.setdefault(block, len(numbers)) for block in blocks.block_of]


def first_states(numbers):
    """Returns the first state of each block; `numbers` tells the block of each state."""
    found = []
    for state, number in enumerate(numbers):
        if number == len(found):
            found.append(state)
    return found


def _blocks_of_kinds(kinds):
    """Returns the blocks of the states of each kind."""
    lots = {}
    for state, kind in enumerate(kinds):
        lots.setdefault(kind, []).append(state)
    blocks = Blocks(len(kinds))
    for kind in lots:
        for state in lots[kind]:
            blocks.mark(state)
        blocks.cut()
    return blocks


class Blocks:
    """The states 0 to `many` - 1, at first in one block.

    The states of a block stand side by side in `members`, its marked ones first.
    So marking and cutting take no longer than there are states to move, which is
    what Hopcroft's way to the least machine needs.
    """

    def __init__(self, many):
        self.members = list(range(many))
        self.places = list(range(many))
        self.block_of = [0] * many
        self.starts = [0]
        self.ends = [many]
        self.marks = [0]
        self.touched = []

    def states_in(self, block):
        """Returns the states of the block."""
        return self.members[self.starts[block]:self.ends[block]]

    def mark(self, state):
        """Marks the state, which must not be marked yet."""
        block = self.block_of[state]
        goal = self.starts[block] + self.marks[block]
        place = self.places[state]
        if self.marks[block] == 0:
            self.touched.append(block)
        self.marks[block] += 1
        other = self.members[goal]
        self.members[goal] = state
        self.members[place] = other
        self.places[state] = goal
        self.places[other] = place

    def cut(self):
        """Cuts each block into its marked states and its others; returns the new blocks.

        A new block has the smaller part of the block from which it comes. Nothing is marked then.
        """
        made = []
        for block in self.touched:
            start = self.starts[block]
            end = self.ends[block]
            middle = start + self.marks[block]
            self.marks[block] = 0
            if middle == end:
                continue
            made.append(len(self.starts))
            if middle - start <= end - middle:
                self.starts[block] = middle
                self.take_out(start, middle)
            else:
                self.ends[block] = middle
                self.take_out(middle, end)
        self.touched = []
        return made

    def take_out(self, start, end):
        """Makes a new block of the states that stand there."""
        for state in self.members[start:end]:
            self.block_of[state] = len(self.starts)
        self.starts.append(start)
        self.ends.append(end)
        self.marks.append(0)
