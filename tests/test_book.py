"""Point 5.1: names and books."""

import unittest

from anytext.errors import BadAlphabet, BadName, ProgramError, UnknownName
from anytext.machines.build import machine_of
from anytext.patterns.reader import read_pattern
from anytext.programs.book import Book, is_name
from anytext.rewriters.rewriter import Rewriter
from helpers import reason

WORDS = ("turn", "rewrite", "if", "in", "then", "else", "need", "give")
STAR = read_pattern("ab", "a*")
PAIRS = read_pattern("ab", "(ab)*")

REWRITER = Rewriter("ab", "", [""], [[(0, "aa"), (0, "b")]])
OTHER = Rewriter("ab", "b", ["", None], [[(1, "a"), None], [(0, ""), (1, "b")]])


class NameTest(unittest.TestCase):
    def test_names(self):
        for name in ("a", "z", "abcdefgh", "zzzzzzzz", "aaa", "x", "turns", "tur", "iff", "i", "inn", "thenelse",
                     "gives", "needs", "rewrites", "els"):
            self.assertIs(is_name(name), True, name)

    def test_the_eight_words(self):
        for word in WORDS:
            self.assertIs(is_name(word), False, word)

    def test_the_length(self):
        self.assertFalse(is_name(""))
        self.assertFalse(is_name("abcdefghi"))
        self.assertFalse(is_name("a" * 1000))

    def test_other_characters(self):
        for name in ("A", "aB", "a1", "1", "a b", " a", "a ", "a_b", "a:", "-", "'a'", "#", "TURN", " turn"):
            self.assertIs(is_name(name), False, name)


class BookTest(unittest.TestCase):
    def setUp(self):
        self.book = Book("ab", {"star": STAR, "same": PAIRS}, {"more": REWRITER, "same": OTHER})

    def test_letters(self):
        self.assertEqual(self.book.letters, "ab")

    def test_what_it_has(self):
        self.assertEqual([self.book.has_pattern(name) for name in ("star", "same", "more", "none", "")],
                         [True, True, False, False, False])
        self.assertEqual([self.book.has_rewriter(name) for name in ("star", "same", "more", "none", "")],
                         [False, True, True, False, False])
        self.assertIs(self.book.has_pattern("star"), True)
        self.assertIs(self.book.has_rewriter("star"), False)

    def test_machines(self):
        self.assertEqual(self.book.machine("star").picture(), machine_of("ab", STAR).picture())
        self.assertEqual(self.book.machine("same").picture(), machine_of("ab", PAIRS).picture())
        self.assertEqual(self.book.machine("star").picture(), ("ab", (True, False), ((0, 1), (1, 1))))

    def test_machines_are_over_the_alphabet_of_the_book(self):
        book = Book("bac", {"star": STAR}, {})
        self.assertEqual(book.machine("star").picture(), ("bac", (True, False), ((1, 0, 1), (1, 1, 1))))

    def test_rewriters(self):
        self.assertEqual(self.book.rewriter("more").picture(), REWRITER.picture())
        self.assertEqual(self.book.rewriter("same").picture(), OTHER.picture())
        self.assertEqual([self.book.rewriter("more").rewrite("ab"), self.book.rewriter("same").rewrite("ab")],
                         ["aab", None])

    def test_a_pattern_and_a_rewriter_of_the_same_name(self):
        self.assertTrue(self.book.machine("same").accepts("abab"))
        self.assertFalse(self.book.machine("same").accepts("aa"))
        self.assertEqual(self.book.rewriter("same").rewrite("aa"), "ba")

    def test_unknown_names(self):
        for name in ("more", "none", "", "turn", "A"):
            self.assertEqual(reason(self.book.machine, name), (UnknownName, name))
        for name in ("star", "none", "", "give"):
            self.assertEqual(reason(self.book.rewriter, name), (UnknownName, name))
        with self.assertRaises(ProgramError):
            self.book.machine("none")

    def test_an_error_changes_nothing(self):
        reason(self.book.machine, "none")
        self.assertFalse(self.book.has_pattern("none"))
        self.assertEqual(reason(self.book.machine, "none"), (UnknownName, "none"))

    def test_an_empty_book(self):
        book = Book("a", {}, {})
        self.assertFalse(book.has_pattern("star"))
        self.assertEqual(reason(book.machine, "star"), (UnknownName, "star"))
        self.assertEqual(reason(book.rewriter, "star"), (UnknownName, "star"))

    def test_dicts_that_are_changed_later(self):
        patterns = {"star": STAR}
        rewriters = {"more": REWRITER}
        book = Book("ab", patterns, rewriters)
        patterns["star"] = PAIRS
        patterns["new"] = PAIRS
        rewriters["new"] = OTHER
        del rewriters["more"]
        self.assertEqual(book.machine("star").picture(), machine_of("ab", STAR).picture())
        self.assertFalse(book.has_pattern("new"))
        self.assertFalse(book.has_rewriter("new"))
        self.assertEqual(book.rewriter("more").rewrite("ab"), "aab")

    def test_what_is_passed_stays_as_it_was(self):
        patterns = {"z": STAR, "a": PAIRS}
        rewriters = {"z": REWRITER, "a": OTHER}
        Book("ab", patterns, rewriters).machine("z")
        self.assertEqual(list(patterns.items()), [("z", STAR), ("a", PAIRS)])
        self.assertEqual(list(rewriters.items()), [("z", REWRITER), ("a", OTHER)])

    def test_200_patterns(self):
        names = ["n" + first + second for first in "abcdefghijklmnopqrst" for second in "abcdefghij"]
        book = Book("ab", {name: STAR for name in names}, {name: REWRITER for name in names})
        self.assertTrue(all(book.has_pattern(name) and book.has_rewriter(name) for name in names))

    def test_a_pattern_that_is_not_asked_for_costs_nothing(self):
        # Its machine would have more than 2 ** 64 states.
        huge = read_pattern("ab", ".*a" + ".{8}" * 5)
        book = Book("ab", {"huge": huge}, {})
        self.assertTrue(book.has_pattern("huge"))


class OrderOfErrorsTest(unittest.TestCase):
    def fault(self, letters, patterns, rewriters, error):
        patterns = {name: STAR for name in patterns}
        rewriters = {name: REWRITER for name in rewriters}
        self.assertEqual(reason(Book, letters, patterns, rewriters), error)

    def test_the_alphabet_comes_first(self):
        for letters in ("", "aa", "abcdefghi", "a b"):
            self.fault(letters, [], [], (BadAlphabet, letters))
            self.fault(letters, ["B"], ["A"], (BadAlphabet, letters))

    def test_keys_that_are_no_names(self):
        for name in ("", "A", "turn", "abcdefghi", "a1"):
            self.fault("ab", ["a", name], ["b"], (BadName, name))
            self.fault("ab", ["a"], ["b", name], (BadName, name))

    def test_patterns_come_before_rewriters(self):
        self.fault("ab", ["zzzzzzzzz"], ["A"], (BadName, "zzzzzzzzz"))

    def test_each_in_the_order_of_strings(self):
        self.fault("ab", ["in", "a", "B", "give"], [], (BadName, "B"))
        self.fault("ab", ["in", "give"], [], (BadName, "give"))
        self.fault("ab", ["a"], ["turn", "z", "else"], (BadName, "else"))
        self.fault("ba", ["b", "a1", "a"], ["0"], (BadName, "a1"))


if __name__ == "__main__":
    unittest.main()
