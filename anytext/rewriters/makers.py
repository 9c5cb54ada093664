"""Makers of rewriters."""

from anytext.rewriters.rewriter import Rewriter


def by_letters(letters, table):
    """Returns a rewriter that writes for each letter what the table has for it, or the letter itself."""
    return Rewriter(letters, "", [""], [[(0, table.get(letter, letter)) for letter in letters]])


# In the three makers that look for a word, state k stands behind a text of which the first k letters
# of the word, but no more of them, are the end.


def replacing(letters, word, by):
    """Returns a rewriter that goes through the text from the left and writes `by` in the place of the word."""

    def way(read):
        if read == word:
            return (0, by)
        many = _begun(word, read)
        return (many, read[:len(read) - many])

    begun = _beginnings(word)
    return Rewriter(letters, "", begun, [[way(read + letter) for letter in letters] for read in begun])


def before_first(letters, word):
    """Returns a rewriter that makes what stands before the first occurrence of the word, or the whole text."""
    found = len(word)

    def way(read):
        if read == word:
            return (found, "")
        many = _begun(word, read)
        return (many, read[:len(read) - many])

    begun = _beginnings(word)
    table = [[way(read + letter) for letter in letters] for read in begun]
    return Rewriter(letters, "", begun + [""], table + [[(found, "") for _ in letters]])


def after_first(letters, word):
    """Returns a rewriter that makes what stands behind the first occurrence of the word, or the empty text."""
    found = len(word)

    def way(read):
        return (found if read == word else _begun(word, read), "")

    begun = _beginnings(word)
    table = [[way(read + letter) for letter in letters] for read in begun]
    return Rewriter(letters, "", ["" for _ in begun] + [""], table + [[(found, letter) for letter in letters]])


def only(machine):
    """Returns a rewriter that makes of an accepted text the text itself and refuses all others."""
    finals = ["" if accepting else None for accepting in machine.accepting]
    return Rewriter(machine.letters, "", finals, [list(zip(row, machine.letters)) for row in machine.table])


def _beginnings(word):
    """Returns the beginnings of the word that are shorter than the word, in the order of their lengths."""
    return [word[:many] for many in range(len(word))]


def _begun(word, read):
    """Returns the length of the longest end of `read` that is a beginning of the word.

    `read` is not the word itself, and not longer than it.
    """
    many = len(read)
    while not read.endswith(word[:many]):
        many -= 1
    return many
