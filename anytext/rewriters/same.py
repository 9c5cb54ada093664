"""Whether two rewriters do the same, and papers that show it."""

from anytext.machines.explore import least_way
from anytext.rewriters.beginnings import owed
from anytext.rewriters.states import live_states


def same(first, second):
    """Returns ("same", paper), or ("differ", text) with the least text with which the two do not do the same."""
    pairs = Pairs(first, second)
    text = pairs.least_difference()
    if text is not None:
        return ("differ", text)
    return ("same", pairs.paper())


def judge_same(first, second, paper):
    """Tells whether the paper is taken."""
    gone, others, rows = paper
    if not _all_gone(first, gone) or not _all_gone(second, others):
        return False
    if 0 in gone or 0 in others:
        return 0 in gone and 0 in others
    known = {tuple(row): True for row in rows}
    lost = {state: True for state in gone}
    other_lost = {state: True for state in others}
    if (0, 0) + owed(first.lead, second.lead) not in known:
        return False
    for row in known:
        if not _ends_alike(first, second, row):
            return False
        for way, other in zip(first.table[row[0]], second.table[row[1]]):
            stops = way is None or way[0] in lost
            if stops != (other is None or other[0] in other_lost):
                return False
            if not stops and (way[0], other[0]) + owed(row[2] + way[1], row[3] + other[1]) not in known:
                return False
    return True


def _all_gone(rewriter, states):
    """Tells whether these are states from which every text is refused, and which lead to such ones among them only."""
    known = {state: True for state in states}
    for state in known:
        if not 0 <= state < len(rewriter.finals) or rewriter.finals[state] is not None:
            return False
        if not all([way is None or way[0] in known for way in rewriter.table[state]]):
            return False
    return True


def _ends_alike(first, second, row):
    """Tells whether the row has two states, and both refuse a text that ends there or make the same text of it."""
    state, other, ahead, behind = row
    if not 0 <= state < len(first.finals) or not 0 <= other < len(second.finals):
        return False
    final = first.finals[state]
    other_final = second.finals[other]
    if final is None or other_final is None:
        return final is None and other_final is None
    return ahead + final == behind + other_final


class Pairs:
    """The pairs of states that a text leads two rewriters to, with the texts that they owe there.

    A key is the two states, each None if all texts are refused from there on, and the two texts.
    """

    def __init__(self, first, second):
        self.first = first
        self.second = second
        self.live = live_states(first)
        self.other_live = live_states(second)
        self.owed_at = {}

    def key(self, state, other, ahead, behind):
        """Returns the key of the pair.

        Behind any text, what two rewriters owe must be one certain thing if they do the same with that text there.
        So of two things owed at a pair at least one makes a difference behind each text behind which any third
        one does, and behind an earlier text: a third one need not be followed, and is taken for the first.
        """
        if state is None or other is None:
            return (state, other, "", "")
        texts = owed(ahead, behind)
        if texts[0] != "" and texts[1] != "":
            # They never become the same any more, whatever comes.
            texts = (texts[0][0], texts[1][0])
        known = self.owed_at.setdefault((state, other), [])
        if texts not in known:
            if len(known) == 2:
                texts = known[0]
            else:
                known.append(texts)
        return (state, other) + texts

    def start(self):
        """Returns the key of the empty text."""
        state = 0 if self.live[0] else None
        other = 0 if self.other_live[0] else None
        return self.key(state, other, self.first.lead, self.second.lead)

    def key_behind(self, key, index):
        """Returns the key behind the letter with this index."""
        state, text = _way(self.first, self.live, key[0], index)
        other, other_text = _way(self.second, self.other_live, key[1], index)
        return self.key(state, other, key[2] + text, key[3] + other_text)

    def differ(self, key):
        """Tells whether the two do not do the same with a text that ends there."""
        final = None if key[0] is None else self.first.finals[key[0]]
        other_final = None if key[1] is None else self.second.finals[key[1]]
        if final is None or other_final is None:
            return final is not None or other_final is not None
        return key[2] + final != key[3] + other_final

    def least_difference(self):
        """Returns the least text with which the two do not do the same, or None."""
        return least_way(self.first.letters, self.start(), self.key_behind, self.differ)

    def paper(self):
        """Returns a paper for two that do the same, when all pairs were gone through."""
        gone = tuple([state for state, live in enumerate(self.live) if not live])
        others = tuple([state for state, live in enumerate(self.other_live) if not live])
        # Two that do the same owe only one thing at each pair.
        return (gone, others, tuple([pair + self.owed_at[pair][0] for pair in self.owed_at]))


def _way(rewriter, live, state, index):
    """Returns the next state, None if all texts are refused from there on, and what is written."""
    way = None if state is None else rewriter.table[state][index]
    if way is None or not live[way[0]]:
        return (None, "")
    return way
