"""Reading the things of a workshop.

Things are a dict from pairs of a kind and a name to meanings: notations, or for a claim the tuple of the name of
its program, the names of the patterns for its inputs and for its output, and whether refusing is let.
"""

from anytext.claims.claim import Claim, check_claim
from anytext.errors import UnknownName
from anytext.patterns.reader import read_pattern
from anytext.programs.book import Book
from anytext.programs.program import check_program
from anytext.programs.reader import read_program
from anytext.rewriters.recipes import read_recipe


class Readings:
    """Reads notations over an alphabet, each only once."""

    def __init__(self, letters):
        self.letters = letters
        self.known = {}

    def read(self, kind, notation):
        """Returns what the notation of a pattern, a recipe or a program means."""
        if (kind, notation) not in self.known:
            if kind == "pattern":
                found = read_pattern(self.letters, notation)
            elif kind == "recipe":
                found = read_recipe(self.letters, notation)
            else:
                found = read_program(notation)
            self.known[(kind, notation)] = found
        return self.known[(kind, notation)]

    def needs(self, things, key):
        """Returns the keys of what the thing with this key needs itself, whether there are such things or not."""
        kind = key[0]
        if kind == "program":
            return _needs_of_lines(self.read(kind, things[key]).lines)
        if kind == "claim":
            program, wanted, output, _ = things[key]
            return [("program", program)] + [("pattern", name) for name in wanted + (output,)]
        return []

    def all_needs(self, things, name):
        """Returns the keys of all that a claim needs, itself or through its program, which is there."""
        found = self.needs(things, ("claim", name))
        return found + self.needs(things, found[0])

    def book(self, things, keys):
        """Returns the book of those patterns and recipes among the keys that are there."""
        patterns = {}
        rewriters = {}
        for key in keys:
            if key in things and key[0] == "pattern":
                patterns[key[1]] = self.read("pattern", things[key])
            elif key in things and key[0] == "recipe":
                rewriters[key[1]] = self.read("recipe", things[key])
        return Book(self.letters, patterns, rewriters)

    def claim_parts(self, things, name):
        """Returns the book, the program and the claim of a claim, whose program is there."""
        program, wanted, output, refusals = things[("claim", name)]
        book = self.book(things, self.all_needs(things, name))
        return (book, self.read("program", things[("program", program)]), Claim(wanted, output, refusals))

    def check(self, things, key):
        """Raises the first error if the things are not in order. But for the one with this key they were before."""
        kind, name = key
        if kind == "claim":
            self.check_claim_of(things, name)
            return
        found = self.read(kind, things[key])
        if kind == "program":
            check_program(self.book(things, self.needs(things, key)), found)
            for other_kind, other in sorted(things):
                if other_kind == "claim" and things[(other_kind, other)][0] == name:
                    self.check_claim_of(things, other)

    def check_claim_of(self, things, name):
        """Raises an error unless the claim is one about its program."""
        program = things[("claim", name)][0]
        if ("program", program) not in things:
            raise UnknownName(program)
        book, program, claim = self.claim_parts(things, name)
        check_claim(book, program, claim)


def _needs_of_lines(lines):
    """Returns the keys of the patterns and recipes that the lines name."""
    found = []
    for line in lines:
        if line[0] == "rewrite":
            found.append(("recipe", line[2]))
        elif line[0] == "choose":
            found.append(("pattern", line[3]))
        elif line[0] == "need":
            found.append(("pattern", line[2]))
    return found
