"""States of rewriters: where they lead, and from which of them some text is not refused."""

from anytext.machines.ways import reached, ways_back


def sources_of_all(rewriter):
    """Returns for each state the states that lead to it, as often as they do."""
    return ways_back([[way[0] for way in row if way is not None] for row in rewriter.table])


def live_states(rewriter):
    """Tells for each state, in a list, whether it is live."""
    ends = [state for state, final in enumerate(rewriter.finals) if final is not None]
    return reached(ends, sources_of_all(rewriter))
