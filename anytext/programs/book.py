"""Names, and books of patterns and rewriters with names."""

from anytext.errors import BadName, UnknownName
from anytext.letters.alphabet import check_alphabet
from anytext.machines.build import machine_of
from anytext.programs.words import NAME_LETTERS, WORDS

LONGEST_NAME = 8


def is_name(name):
    """Tells whether the string is a name."""
    if not 1 <= len(name) <= LONGEST_NAME or name in WORDS:
        return False
    return all([letter in NAME_LETTERS for letter in name])


class Book:
    """An alphabet, patterns with names and rewriters with names; it never changes."""

    def __init__(self, letters, patterns, rewriters):
        check_alphabet(letters)
        for name in sorted(patterns) + sorted(rewriters):
            if not is_name(name):
                raise BadName(name)
        self.letters = letters
        self._patterns = {name: patterns[name] for name in patterns}
        self._rewriters = {name: rewriters[name] for name in rewriters}
        # A machine may be large, so it is made when it is asked for, but then only once.
        self._machines = {}

    def has_pattern(self, name):
        """Tells whether there is a pattern with this name."""
        return name in self._patterns

    def has_rewriter(self, name):
        """Tells whether there is a rewriter with this name."""
        return name in self._rewriters

    def machine(self, name):
        """Returns the least machine of the pattern."""
        if name not in self._patterns:
            raise UnknownName(name)
        if name not in self._machines:
            self._machines[name] = machine_of(self.letters, self._patterns[name])
        return self._machines[name]

    def rewriter(self, name):
        """Returns the rewriter."""
        if name not in self._rewriters:
            raise UnknownName(name)
        return self._rewriters[name]
