"""Rewriters."""

from anytext.errors import BadRewriter
from anytext.letters.alphabet import is_text


class Rewriter:
    """A rewriter with states 0, 1, 2 and so on; it begins in state 0 and never changes."""

    def __init__(self, letters, lead, finals, table):
        self.letters = letters
        self.lead = lead
        self.finals = tuple(finals)
        self.table = tuple([tuple([None if way is None else tuple(way) for way in row]) for row in table])
        self.check()

    def check(self):
        """Raises BadRewriter unless the parts fit together."""
        states = len(self.finals)
        if states == 0 or len(self.table) != states:
            raise BadRewriter(None)
        written = [self.lead] + [final for final in self.finals if final is not None]
        for row in self.table:
            if len(row) != len(self.letters):
                raise BadRewriter(None)
            for after, text in [way for way in row if way is not None]:
                if not 0 <= after < states:
                    raise BadRewriter(None)
                written.append(text)
        if not all([is_text(self.letters, text) for text in written]):
            raise BadRewriter(None)

    def rewrite(self, text):
        """Returns the text that the rewriter makes of the text, or None if it refuses it."""
        behind = self.rewrite_from(0, text)
        if behind is None or self.finals[behind[0]] is None:
            return None
        return self.lead + behind[1] + self.finals[behind[0]]

    def rewrite_from(self, state, text):
        """Returns the state behind the text, read from this state on, and what is written for its letters.

        Returns None if there is nothing for one of the letters.
        """
        written = []
        for letter in text:
            way = self.table[state][self.letters.index(letter)]
            if way is None:
                return None
            state = way[0]
            written.append(way[1])
        return (state, "".join(written))

    def picture(self):
        """Returns all that the rewriter is made of."""
        return (self.letters, self.lead, self.finals, self.table)
