"""Machines."""

from anytext.errors import BadMachine


class Machine:
    """A machine with states 0, 1, 2 and so on; it begins in state 0 and never changes."""

    def __init__(self, letters, accepting, table):
        self.letters = letters
        self.accepting = tuple(accepting)
        self.table = tuple([tuple(row) for row in table])
        self.check()

    def check(self):
        """Raises BadMachine unless the parts fit together."""
        states = len(self.accepting)
        if states == 0 or len(self.table) != states:
            raise BadMachine(None)
        for row in self.table:
            if len(row) != len(self.letters) or min(row) < 0 or max(row) >= states:
                raise BadMachine(None)

    def run(self, text):
        """Returns the state behind the text."""
        return self.run_from(0, text)

    def run_from(self, state, text):
        """Returns the state behind the text, read from this state on."""
        for letter in text:
            state = self.table[state][self.letters.index(letter)]
        return state

    def accepts(self, text):
        """Tells whether the machine accepts the text."""
        return self.accepting[self.run(text)]

    def picture(self):
        """Returns all that the machine is made of."""
        return (self.letters, self.accepting, self.table)
