"""Point 4.6: makers of rewriters."""

import unittest

from anytext.errors import MachineError
from anytext.machines.build import machine_of
from anytext.machines.machine import Machine
from anytext.patterns.reader import read_pattern
from anytext.rewriters.makers import after_first, before_first, by_letters, only, replacing
from anytext.rewriters.rewriter import Rewriter
from helpers import random_machine, random_text, seeded, texts_up_to

WORDS = ("a", "b", "aa", "ab", "aba", "aab", "abab", "bbb", "abaab", "aabaab", "abababab", "aaaaaaaa", "baaaaaab")


def plainly_replaced(text, word, by):
    """Goes through the text from the left."""
    found, place = "", 0
    while place < len(text):
        if text[place:place + len(word)] == word:
            found, place = found + by, place + len(word)
        else:
            found, place = found + text[place], place + 1
    return found


def plainly_before(text, word):
    for place in range(len(text)):
        if text[place:place + len(word)] == word:
            return text[:place]
    return text


def plainly_after(text, word):
    for place in range(len(text)):
        if text[place:place + len(word)] == word:
            return text[place + len(word):]
    return ""


class MakersTest(unittest.TestCase):
    def does(self, rewriter, letters, wanted, texts=None):
        """The rewriter makes what is wanted of all texts of up to six letters, and of longer ones."""
        self.assertIs(type(rewriter), Rewriter)
        self.assertEqual(rewriter.letters, letters)
        rng = seeded(100)
        long = [random_text(rng, letters, 60) for _ in range(20)]
        for text in (texts or texts_up_to(letters, 6 if len(letters) < 3 else 4)) + long:
            self.assertEqual(rewriter.rewrite(text), wanted(text), text)

    def test_by_letters(self):
        for table in ({}, {"a": "b"}, {"a": "b", "b": "a"}, {"a": ""}, {"b": "abab", "a": ""}, {"a": "a", "b": "bbbbb"}):
            for letters in ("ab", "ba", "cab"):
                self.does(by_letters(letters, table), letters,
                          lambda text: "".join(table.get(letter, letter) for letter in text))

    def test_letters_without_an_entry(self):
        found = by_letters("abc", {"b": "cc"})
        self.assertEqual([found.rewrite(text) for text in ("", "a", "abcb")], ["", "a", "a" + "cc" + "c" + "cc"])

    def test_empty_texts_in_the_dict(self):
        self.assertEqual(by_letters("ab", {"a": "", "b": ""}).rewrite("abba"), "")
        self.assertEqual(by_letters("ab", {"a": ""}).rewrite("abba"), "bb")

    def test_an_empty_dict(self):
        self.assertEqual(by_letters("#<", {}).rewrite("<#<<"), "<#<<")

    def test_dicts_changed_later(self):
        table = {"a": "bb"}
        found = by_letters("ab", table)
        self.assertEqual(table, {"a": "bb"})
        picture = found.picture()
        table["a"] = ""
        table["b"] = "a"
        self.assertEqual(found.picture(), picture)
        self.assertEqual(found.rewrite("ab"), "bbb")

    def test_texts_that_are_none(self):
        with self.assertRaises(MachineError):
            by_letters("ab", {"a": "c"})

    def test_replacing(self):
        for word in WORDS:
            for by in ("", "a", "b", "ba", word, "a" + word + "b", word + word):
                self.does(replacing("ab", word, by), "ab", lambda text: plainly_replaced(text, word, by))

    def test_replacing_over_other_alphabets(self):
        for word in ("ab", "aa", "cac", "cacac", "bcb"):
            self.does(replacing("cab", word, "b"), "cab", lambda text: plainly_replaced(text, word, "b"))
        for word in ("a", "aa", "aaa"):
            self.does(replacing("a", word, "aa"), "a", lambda text: plainly_replaced(text, word, "aa"))

    def test_words_that_overlap_themselves(self):
        self.assertEqual([replacing("ab", "aa", "b").rewrite("a" * many) for many in range(6)],
                         ["", "a", "b", "ba", "bb", "bba"])
        self.assertEqual(replacing("ab", "aba", "b").rewrite("ababa"), "bba")
        self.assertEqual(replacing("ab", "aba", "").rewrite("ababaaba"), "ba")
        # What was written is not looked through again.
        self.assertEqual(replacing("ab", "ab", "a").rewrite("abb"), "ab")
        self.assertEqual(replacing("ab", "aab", "a").rewrite("aaabab"), "aa" + "ab")
        self.assertEqual(before_first("ab", "aba").rewrite("bababa"), "b")
        self.assertEqual(after_first("ab", "aba").rewrite("bababa"), "ba")

    def test_words_longer_than_the_text(self):
        for text in ("", "abababa", "a", "bababab"):
            self.assertEqual(replacing("ab", "abababab", "a").rewrite(text), text)
            self.assertEqual(before_first("ab", "abababab").rewrite(text), text)
            self.assertEqual(after_first("ab", "abababab").rewrite(text), "")

    def test_words_of_eight_letters(self):
        self.assertEqual(replacing("ab", "abababab", "").rewrite("b" + "ab" * 9 + "a"), "bab" + "a")
        self.assertEqual(replacing("abcdefgh", "abcdefgh", "ha").rewrite("habcdefgha"), "hhaa")
        self.assertEqual(before_first("ab", "aaaaaaab").rewrite("a" * 9 + "bb"), "aa")
        self.assertEqual(after_first("ab", "aaaaaaab").rewrite("a" * 9 + "bb"), "b")

    def test_before_and_after(self):
        for word in WORDS:
            self.does(before_first("ab", word), "ab", lambda text: plainly_before(text, word))
            self.does(after_first("ab", word), "ab", lambda text: plainly_after(text, word))
        for word in ("c", "ca", "cac", "bcb"):
            self.does(before_first("cab", word), "cab", lambda text: plainly_before(text, word))
            self.does(after_first("cab", word), "cab", lambda text: plainly_after(text, word))

    def test_only(self):
        rng = seeded(101)
        for letters in ("a", "ab", "ba", "cab"):
            for _ in range(15):
                machine = random_machine(rng, letters, rng.randint(1, 5))
                before = machine.picture()
                self.does(only(machine), letters, lambda text: text if machine.accepts(text) else None)
                self.assertEqual(machine.picture(), before)

    def test_only_nothing_and_everything(self):
        self.does(only(Machine("ab", [False], [[0, 0]])), "ab", lambda text: None)
        self.does(only(Machine("ab", [True], [[0, 0]])), "ab", lambda text: text)
        self.does(only(machine_of("ab", read_pattern("ab", "()"))), "ab", lambda text: "" if text == "" else None)

    def test_only_of_many_states(self):
        ring = Machine("ab", [state == 1999 for state in range(2000)], [[(state + 1) % 2000, 0] for state in range(2000)])
        self.assertEqual(only(ring).rewrite("b" + "a" * 1999), "b" + "a" * 1999)
        self.assertIsNone(only(ring).rewrite("a" * 1998))


if __name__ == "__main__":
    unittest.main()
