"""Two rewriters, one behind the other."""

from anytext.rewriters.rewriter import Rewriter


def in_turn(first, second):
    """Returns a rewriter that makes of each text what the second makes of what the first makes of it."""
    behind_lead = second.rewrite_from(0, first.lead)
    if behind_lead is None:
        # The second one refuses whatever the first one makes.
        return Rewriter(first.letters, "", [None], [[None] * len(first.letters)])
    start = (0, behind_lead[0])
    numbers = {start: 0}
    pairs = [start]
    finals = []
    table = []
    while len(table) < len(pairs):
        state, place = pairs[len(table)]
        row = []
        for way in first.table[state]:
            behind = None if way is None else second.rewrite_from(place, way[1])
            if behind is None:
                row.append(None)
            else:
                pair = (way[0], behind[0])
                if pair not in numbers:
                    numbers[pair] = len(pairs)
                    pairs.append(pair)
                row.append((numbers[pair], behind[1]))
        finals.append(_final(first.finals[state], second, place))
        table.append(row)
    return Rewriter(first.letters, second.lead + behind_lead[1], finals, table)


def _final(text, second, place):
    """Returns what the second one makes from this state on of the end of the first one's text, or None."""
    behind = None if text is None else second.rewrite_from(place, text)
    if behind is None or second.finals[behind[0]] is None:
        return None
    return behind[1] + second.finals[behind[0]]
