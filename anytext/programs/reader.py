"""Reading the notation of programs."""

from anytext.errors import BadLine, TooLarge
from anytext.letters.alphabet import LETTERS
from anytext.programs.program import Program
from anytext.programs.words import NAME_LETTERS, WORDS

MOST_CHARACTERS = 1000
SIGNS = ",:;="


def read_program(text):
    """Returns the program of the notation. Raises BadLine or TooLarge."""
    if len(text) > MOST_CHARACTERS:
        raise TooLarge(MOST_CHARACTERS)
    return ProgramReader(_tokens(text)).program()


def _tokens(text):
    """Returns the tokens: triples of what it is, the word or text itself, and the place.

    What it is is "name", "text", one of the words or signs themselves, or "end" for
    one more token that stands behind all others.
    """
    found = []
    place = 0
    while place < len(text):
        if text[place] != " ":
            found.append(_token(text, place))
            place = _token_end(text, place)
        else:
            place += 1
    found.append(("end", "", len(text)))
    return found


def _token(text, place):
    """Returns the token that begins at the place."""
    row = text[place:_token_end(text, place)]
    if row[0] == "'":
        return ("text", row[1:-1], place)
    if row in WORDS or row in SIGNS:
        return (row, row, place)
    return ("name", row, place)


def _token_end(text, place):
    """Returns the place behind the token that begins at the place."""
    if text[place] in SIGNS:
        return place + 1
    if text[place] in NAME_LETTERS:
        return _behind_row(text, place, NAME_LETTERS)
    if text[place] != "'":
        raise BadLine(place)
    end = _behind_row(text, place + 1, LETTERS)
    if text[end:end + 1] != "'":
        raise BadLine(end)
    return end + 1


def _behind_row(text, place, signs):
    """Returns the first place from here on that has none of these characters."""
    while place < len(text) and text[place] in signs:
        place += 1
    return place


class ProgramReader:
    """Goes through the tokens of a notation from the left."""

    def __init__(self, tokens):
        self.tokens = tokens
        self.index = 0

    def faces(self, kinds):
        """Tells whether the next token is one of these."""
        return self.tokens[self.index][0] in kinds

    def take(self, kind):
        """Returns the word or the text of the next token and goes on behind it. Only this kind can stand here."""
        found, word, place = self.tokens[self.index]
        if found != kind:
            raise BadLine(place)
        self.index += 1
        return word

    def program(self):
        """Reads all of the notation."""
        inputs = [self.take("name")]
        while self.faces([","]):
            self.take(",")
            inputs.append(self.take("name"))
        self.take(":")
        lines = []
        while not self.faces(["give"]):
            lines.append(self.line())
            self.take(";")
        self.take("give")
        result = self.take("name")
        self.take("end")
        return Program(inputs, lines, result)

    def line(self):
        """Reads a line without the `;` behind it."""
        if self.faces(["need"]):
            self.take("need")
            source = self.take("name")
            self.take("in")
            return ("need", source, self.take("name"))
        name = self.take("name")
        self.take("=")
        return self.made(name)

    def made(self, name):
        """Reads what stands behind `=` in the line for the name."""
        if self.faces(["turn"]):
            self.take("turn")
            return ("turn", name, self.take("name"))
        if self.faces(["rewrite"]):
            self.take("rewrite")
            rewriter = self.take("name")
            return ("rewrite", name, rewriter, self.take("name"))
        if self.faces(["if"]):
            return self.choice(name)
        return ("join", name, self.parts())

    def choice(self, name):
        """Reads a choose from its `if` on."""
        self.take("if")
        source = self.take("name")
        self.take("in")
        pattern = self.take("name")
        self.take("then")
        yes = self.take("name")
        self.take("else")
        return ("choose", name, source, pattern, yes, self.take("name"))

    def parts(self):
        """Reads the parts of a join, one at least."""
        found = [self.part()]
        while self.faces(["name", "text"]):
            found.append(self.part())
        return tuple(found)

    def part(self):
        """Reads a part of a join. What can be no part cannot be a name there either."""
        if self.faces(["text"]):
            return ("text", self.take("text"))
        return ("name", self.take("name"))
