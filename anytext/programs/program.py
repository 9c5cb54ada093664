"""Programs, and whether they are in order."""

from anytext.errors import BadName, NameTaken, TooMany, UnknownName
from anytext.letters.alphabet import check_text
from anytext.programs.book import is_name

MOST_INPUTS = 3
MOST_LINES = 12
MOST_PARTS = 6


class Program:
    """Inputs, lines and a result; it never changes."""

    def __init__(self, inputs, lines, result):
        self.inputs = tuple(inputs)
        self.lines = tuple(lines)
        self.result = result

    def picture(self):
        """Returns all that the program is made of."""
        return (self.inputs, self.lines, self.result)


def check_program(book, program):
    """Raises the error of the first rule that the program breaks, if it breaks one."""
    if not 1 <= len(program.inputs) <= MOST_INPUTS:
        raise TooMany("inputs")
    if len(program.lines) > MOST_LINES:
        raise TooMany("lines")
    known = []
    for name in program.inputs:
        _check_new_name(name, known)
        known.append(name)
    for line in program.lines:
        _check_known(names_read(line), known)
        _check_book_has(book, line)
        for name in names_given(line):
            _check_new_name(name, known)
            known.append(name)
    _check_known([program.result], known)


def names_read(line):
    """Returns the names whose texts the line reads, in the order in which they stand in it."""
    kind = line[0]
    if kind == "join":
        return [part[1] for part in line[2] if part[0] == "name"]
    if kind == "turn":
        return [line[2]]
    if kind == "rewrite":
        return [line[3]]
    if kind == "choose":
        return [line[2], line[4], line[5]]
    return [line[1]]


def names_given(line):
    """Returns the name that the line gives a text, in a list, which is empty for a need."""
    if line[0] == "need":
        return []
    return [line[1]]


def _check_new_name(name, known):
    """Raises an error unless an input or a line may bring this name."""
    if not is_name(name):
        raise BadName(name)
    if name in known:
        raise NameTaken(name)


def _check_known(names, known):
    """Raises UnknownName for the first of the names that has no text."""
    for name in names:
        if name not in known:
            raise UnknownName(name)


def _check_book_has(book, line):
    """Raises an error unless the book has what the line needs besides the names that it reads."""
    kind = line[0]
    if kind == "join":
        _check_parts(book.letters, line[2])
    elif kind == "rewrite" and not book.has_rewriter(line[2]):
        raise UnknownName(line[2])
    elif kind == "choose" and not book.has_pattern(line[3]):
        raise UnknownName(line[3])
    elif kind == "need" and not book.has_pattern(line[2]):
        raise UnknownName(line[2])


def _check_parts(letters, parts):
    """Raises an error unless these are parts of a join."""
    if not 1 <= len(parts) <= MOST_PARTS:
        raise TooMany("parts")
    for kind, text in parts:
        if kind == "text":
            check_text(letters, text)
