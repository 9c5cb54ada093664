"""Records of answers: their notation, and reading it."""

from anytext.errors import BadRecord
from anytext.letters.alphabet import LETTERS

DIGITS = "0123456789"
MOST_DIGITS = 9
MOST_DEEP = 8
QUOTE = "'"


def write_value(value):
    """Returns the notation of the value."""
    if isinstance(value, tuple):
        return "(" + " ".join([write_value(item) for item in value]) + ")"
    if isinstance(value, str):
        return QUOTE + value + QUOTE
    if isinstance(value, bool):
        return "T" if value else "F"
    return str(value)


def read_value(text):
    """Returns the value of the notation. Raises BadRecord."""
    return ValueReader(text, 0).whole()


def write_answer(answer):
    """Returns the record of the answer."""
    return answer[0] + " " + write_value(answer[1])


def read_answer(text):
    """Returns the answer of the record. Raises BadRecord."""
    word = text.partition(" ")[0]
    if word not in ("holds", "broken"):
        raise BadRecord(0)
    value = ValueReader(text, len(word) + 1).whole()
    if not (_is_paper(value) if word == "holds" else _all_are(value, _is_text)):
        raise BadRecord(None)
    return (word, value)


def _is_paper(value):
    """Tells whether the value has the form of a paper."""
    return _all_are(value, _is_place)


def _is_place(value):
    """Tells whether the value has the form of the demands at a place."""
    return _all_are(value, _is_demand)


def _is_demand(value):
    """Tells whether the value has the form of a demand."""
    return _all_are(value, _is_triple)


def _is_triple(value):
    """Tells whether the value has the form of a name and a machine."""
    if not isinstance(value, tuple) or len(value) != 3:
        return False
    return _is_text(value[0]) and _all_are(value[1], _is_truth) and _all_are(value[2], _is_row)


def _is_row(value):
    """Tells whether the value has the form of a row of a table."""
    return _all_are(value, _is_number)


def _is_text(value):
    """Tells whether the value is a text."""
    return isinstance(value, str)


def _is_truth(value):
    """Tells whether the value is True or False."""
    return isinstance(value, bool)


def _is_number(value):
    """Tells whether the value is an integer."""
    return isinstance(value, int) and not isinstance(value, bool)


def _all_are(value, fits):
    """Tells whether the value is a tuple all of whose items fit."""
    return isinstance(value, tuple) and all([fits(item) for item in value])


class ValueReader:
    """Goes through the notation of a value from the left, from the place on."""

    def __init__(self, text, place):
        self.text = text
        self.place = place

    def faces(self, signs):
        """Tells whether the next character is one of these."""
        return self.place < len(self.text) and self.text[self.place] in signs

    def take(self, signs):
        """Returns the next character and goes on behind it. Only one of these can stand here."""
        if not self.faces(signs):
            raise BadRecord(self.place)
        self.place += 1
        return self.text[self.place - 1]

    def whole(self):
        """Reads all of the notation."""
        found = self.value(MOST_DEEP)
        if self.place < len(self.text):
            raise BadRecord(self.place)
        return found

    def value(self, deep):
        """Reads a value in which tuples may stand so deep."""
        start = self.place
        sign = self.take("TF" + QUOTE + DIGITS + ("(" if deep > 0 else ""))
        if sign == "(":
            return self.items_behind(deep - 1)
        if sign == QUOTE:
            return self.text_behind()
        if sign in DIGITS:
            return self.number_from(start)
        return sign == "T"

    def items_behind(self, deep):
        """Reads what stands behind `(`."""
        found = []
        if not self.faces(")"):
            found.append(self.value(deep))
            while self.faces(" "):
                self.take(" ")
                found.append(self.value(deep))
        self.take(")")
        return tuple(found)

    def text_behind(self):
        """Reads what stands behind a quote."""
        start = self.place
        while self.faces(LETTERS):
            self.place += 1
        self.take(QUOTE)
        return self.text[start:self.place - 1]

    def number_from(self, start):
        """Reads an integer of which the first digit was read. Nothing may follow a zero at the front."""
        while self.text[start] != "0" and self.place - start < MOST_DIGITS and self.faces(DIGITS):
            self.place += 1
        return int(self.text[start:self.place])
