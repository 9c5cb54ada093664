"""Machines whose states are lots: the states of another machine that several readings of a text reach.

All machines that are returned are least machines.
"""

from anytext.machines.least import least, least_explored, sources_by


def reversal(machine):
    """Returns the machine of the accepted texts, each turned round."""
    # States to which nothing leads would be in many lots for nothing.
    small = least(machine)
    sources = [sources_by(small, index) for index in range(len(small.letters))]

    # A lot has the states from which all that was read, turned round, leads to an accepting state.
    def step(lot, index):
        return _lot([source for goal in lot for source in sources[index][goal]])

    def accepts(lot):
        return 0 in lot

    start = _lot([state for state, accepting in enumerate(small.accepting) if accepting])
    return least_explored(small.letters, start, step, accepts)


def chained_texts(first, second):
    """Returns the machine of the texts of the first one with a text of the second one behind it."""

    def joined(state, lot):
        # Where the first text may end, a second one may begin.
        return (state, _lot(lot + [0] if first.accepting[state] else lot))

    def step(key, index):
        return joined(first.table[key[0]][index], _after(second, key[1], index))

    def accepts(key):
        return _accepts_one(second, key[1])

    return least_explored(first.letters, joined(0, []), step, accepts)


def repetition(machine):
    """Returns the machine of the empty text and the texts that are several accepted ones."""

    # The empty lot stands for the beginning, where nothing was read yet; no letter leads back to it.
    def step(lot, index):
        after = _after(machine, lot or (0,), index)
        return _lot(after + [0] if _accepts_one(machine, after) else after)

    def accepts(lot):
        return lot == () or _accepts_one(machine, lot)

    return least_explored(machine.letters, (), step, accepts)


def _lot(states):
    """Returns the key of these states."""
    return tuple(sorted(set(states)))


def _after(machine, lot, index):
    """Returns the states to which the letter with this index leads."""
    return [machine.table[state][index] for state in lot]


def _accepts_one(machine, lot):
    """Tells whether one of these states is accepting."""
    return any([machine.accepting[state] for state in lot])
