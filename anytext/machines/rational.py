"""Patterns of machines.

The states are taken away one by one. A way from a state to another one is the pattern of the texts that
lead from the one to the other through states that were taken away.
"""

from anytext.machines.least import least
from anytext.machines.search import useful


def pattern_of(machine):
    """Returns a pattern of exactly the accepted texts."""
    small = least(machine)
    begin = len(small.table)
    end = begin + 1
    states = useful(small)
    ways = _single_letters(small, states)
    ways[(begin, 0)] = ("empty",)
    for state in states:
        if small.accepting[state]:
            ways[(state, end)] = ("empty",)
    while len(states) > 0:
        state = _with_fewest_ways(ways, states)
        states.remove(state)
        ways = _without(ways, state)
    return ways.get((begin, end), ("none",))


def _single_letters(machine, states):
    """Returns the ways of a single letter between these states."""
    ways = {}
    for state in states:
        for goal in states:
            places = [place for place, after in enumerate(machine.table[state]) if after == goal]
            if places:
                ways[(state, goal)] = ("one", "".join([machine.letters[place] for place in places]))
    return ways


def _with_fewest_ways(ways, states):
    """Returns the state through which the fewest pairs of ways lead, so that the pattern grows little."""
    weights = []
    for state in states:
        coming = len([pair for pair in ways if pair[1] == state])
        going = len([pair for pair in ways if pair[0] == state])
        weights.append((coming * going, state))
    return min(weights)[1]


def _without(ways, state):
    """Returns the ways when the state is taken away."""
    ring = ways.get((state, state), None)
    around = ("empty",) if ring is None else ("star", ring)
    found = {pair: ways[pair] for pair in ways if state not in pair}
    for before, middle in ways:
        if middle == state and before != state:
            coming = _joined(ways[(before, state)], around)
            for origin, after in ways:
                if origin == state and after != state:
                    way = _joined(coming, ways[(state, after)])
                    known = found.get((before, after), None)
                    found[(before, after)] = way if known is None else ("either", known, way)
    return found


def _joined(first, second):
    """Returns the joining of the two patterns."""
    if first == ("empty",):
        return second
    if second == ("empty",):
        return first
    return ("join", first, second)
