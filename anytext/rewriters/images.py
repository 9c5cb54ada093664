"""Machines of the texts that rewriters read and make. All of them are least machines."""

from anytext.machines.least import least, least_explored
from anytext.machines.machine import Machine
from anytext.machines.ways import reached, ways_back

# Numbers of pairs: of what stands behind all that is written, and of the two states 0.
END = 0
START = 1


def domain(rewriter):
    """Returns the machine of the texts that the rewriter does not refuse."""
    return before_image(rewriter, Machine(rewriter.letters, [True], [[0] * len(rewriter.letters)]))


def before_image(rewriter, machine):
    """Returns the machine of the texts of which the rewriter makes an accepted text."""

    # A key has the state of the rewriter and that of the machine behind all that was written,
    # or is None if the rewriter had nothing for a letter.
    def step(key, index):
        way = None if key is None else rewriter.table[key[0]][index]
        if way is None:
            return None
        return (way[0], machine.run_from(key[1], way[1]))

    def accepts(key):
        final = None if key is None else rewriter.finals[key[0]]
        return final is not None and machine.accepting[machine.run_from(key[1], final)]

    return least_explored(rewriter.letters, (0, machine.run(rewriter.lead)), step, accepts)


def after_image(rewriter, machine):
    """Returns the machine of the texts that the rewriter makes of accepted texts."""
    ways = _ways_to_end(rewriter, least(machine))

    # A key has all that may be left to write behind the letters that were read: a text, and the pair behind it.
    def step(key, index):
        letter = rewriter.letters[index]
        return _spots(ways, [(text[1:], goal) for text, goal in key if text[:1] == letter])

    def accepts(key):
        return ("", END) in key

    return least_explored(rewriter.letters, _spots(ways, [(rewriter.lead, START)]), step, accepts)


def _ways_to_end(rewriter, machine):
    """Returns for each pair its ways that lead on to the end, as texts that are written and numbers of pairs."""
    ways = _ways_of_pairs(rewriter, machine)
    leads_on = reached([END], ways_back([[goal for _, goal in row] for row in ways]))
    return [[way for way in row if leads_on[way[1]]] for row in ways]


def _ways_of_pairs(rewriter, machine):
    """Returns all ways of the pairs of a state of the rewriter and one of the machine to which a text leads."""
    pairs = [None, (0, 0)]
    numbers = {(0, 0): START}
    ways = [[]]
    while len(ways) < len(pairs):
        state, place = pairs[len(ways)]
        row = []
        for way, after in zip(rewriter.table[state], machine.table[place]):
            if way is not None:
                pair = (way[0], after)
                if pair not in numbers:
                    numbers[pair] = len(pairs)
                    pairs.append(pair)
                row.append((way[1], numbers[pair]))
        if rewriter.finals[state] is not None and machine.accepting[place]:
            row.append((rewriter.finals[state], END))
        ways.append(row)
    return ways


def _spots(ways, spots):
    """Returns the key of these spots: where nothing is left to write, what the pair there writes counts."""
    found = {}
    waiting = list(spots)
    while waiting:
        spot = waiting.pop()
        if spot not in found:
            found[spot] = True
            if spot[0] == "":
                waiting.extend(ways[spot[1]])
    return tuple(sorted([spot for spot in found if spot[0] != "" or spot[1] == END]))
