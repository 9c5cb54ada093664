"""Reading the notation of patterns."""

from anytext.errors import BadPattern, TooLarge

MOST_CHARACTERS = 400
MOST_OPEN_BRACKETS = 12
MOST_TERMS = 100

# The reader keeps each term together with its size: counting the terms again
# would take too long where a repeated term stands in a repeated term.
EMPTY = (("empty",), 1)


def read_pattern(letters, text):
    """Returns the pattern of the notation. Raises BadPattern or TooLarge."""
    if len(text) > MOST_CHARACTERS:
        raise TooLarge(MOST_CHARACTERS)
    term, many = PatternReader(letters, text).whole()
    if many > MOST_TERMS:
        raise TooLarge(MOST_TERMS)
    return term


def _over(kind, part):
    """Returns the term of this kind with one part."""
    return ((kind, part[0]), part[1] + 1)


def _over_two(kind, first, second):
    """Returns the term of this kind with two parts."""
    return ((kind, first[0], second[0]), first[1] + second[1] + 1)


def _one_of(kept):
    """Returns the term of these letters."""
    if kept == "":
        return (("none",), 1)
    return (("one", kept), 1)


def _times(part, many):
    """Returns the part, joined so many times from the left."""
    if many == 0:
        return EMPTY
    found = part
    for _ in range(many - 1):
        found = _over_two("join", found, part)
    return found


def _at_most(part, many):
    """Returns the term of up to so many times the part, at least one."""
    found = _over_two("either", EMPTY, part)
    for _ in range(many - 1):
        found = _over_two("either", EMPTY, _over_two("join", part, found))
    return found


def _between(part, least, most):
    """Returns the term of from `least` to `most` times the part."""
    if least == most:
        return _times(part, least)
    if least == 0:
        return _at_most(part, most)
    return _over_two("join", _times(part, least), _at_most(part, most - least))


class PatternReader:
    """Goes through a notation from the left. Its methods return pairs of a term and its size."""

    def __init__(self, letters, text):
        self.letters = letters
        self.text = text
        self.place = 0
        self.open_brackets = 0

    def faces(self, signs):
        """Tells whether the next character is one of these."""
        return self.place < len(self.text) and self.text[self.place] in signs

    def take(self, signs):
        """Returns the next character and goes on behind it. Only one of these can stand here."""
        if not self.faces(signs):
            raise BadPattern(self.place)
        self.place += 1
        return self.text[self.place - 1]

    def whole(self):
        """Reads all of the notation."""
        found = self.pattern()
        if self.place < len(self.text):
            raise BadPattern(self.place)
        return found

    def pattern(self):
        """Reads what may stand in round brackets."""
        found = self.meets()
        while self.faces("|"):
            self.take("|")
            found = _over_two("either", found, self.meets())
        return found

    def meets(self):
        """Reads rows with `&` between them."""
        found = self.row()
        while self.faces("&"):
            self.take("&")
            found = _over_two("both", found, self.row())
        return found

    def row(self):
        """Reads items side by side, perhaps none."""
        beginnings = self.letters + ".[(!"
        if not self.faces(beginnings):
            return EMPTY
        found = self.unary()
        while self.faces(beginnings):
            found = _over_two("join", found, self.unary())
        return found

    def unary(self):
        """Reads an item with the `!` in front of it."""
        nots = 0
        while self.faces("!"):
            self.take("!")
            nots += 1
        found = self.counted()
        for _ in range(nots):
            found = _over("not", found)
        return found

    def counted(self):
        """Reads an item with the signs behind it."""
        found = self.simple()
        while self.faces("*+?{"):
            sign = self.take("*+?{")
            if sign == "*":
                found = _over("star", found)
            elif sign == "+":
                found = _over_two("join", found, _over("star", found))
            elif sign == "?":
                found = _over_two("either", EMPTY, found)
            else:
                least, most = self.counts()
                found = _between(found, least, most)
        return found

    def counts(self):
        """Reads what stands behind `{`; returns the least and the greatest number of times."""
        digits = "012345678"
        least = int(self.take(digits))
        most = least
        if self.take(",}") == ",":
            most = int(self.take(digits[least:]))
            self.take("}")
        return (least, most)

    def simple(self):
        """Reads an item without signs."""
        sign = self.take(self.letters + ".[(")
        if sign == "(":
            return self.bracketed()
        if sign == "[":
            return self.chosen()
        return _one_of(self.letters if sign == "." else sign)

    def bracketed(self):
        """Reads what stands behind `(`."""
        if self.open_brackets == MOST_OPEN_BRACKETS:
            raise TooLarge(MOST_OPEN_BRACKETS)
        self.open_brackets += 1
        found = self.pattern()
        self.take(")")
        self.open_brackets -= 1
        return found

    def chosen(self):
        """Reads what stands behind `[`."""
        opposite = self.faces("^")
        if opposite:
            self.take("^")
        named = ""
        while self.faces(self.letters):
            named += self.take(self.letters)
        self.take("]")
        return _one_of("".join([letter for letter in self.letters if (letter in named) != opposite]))
