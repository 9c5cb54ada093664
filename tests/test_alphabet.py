"""Points 0.3, 1.1 and 1.2: letters, alphabets, texts and their order."""

import itertools
import unittest

from anytext.errors import BadAlphabet, BadText, LetterError
from anytext.letters.alphabet import LETTERS, check_alphabet, check_text, is_text, order_key, texts_of
from helpers import reason

NO_LETTERS = "".join(chr(code) for code in range(32, 127) if chr(code) not in LETTERS and code != 37)


class AlphabetTest(unittest.TestCase):
    def test_the_letters(self):
        lower = "abcdefghijklmnopqrstuvwxyz"
        self.assertEqual(LETTERS, lower + lower.upper() + "0123456789" + "<>=:_@#")

    def test_alphabets(self):
        for letters in ("a", "ba", "zyx", "abcdefgh", "<>=:_@#0", "aA", "9", "#"):
            self.assertIsNone(check_alphabet(letters))

    def test_each_letter_alone_is_an_alphabet(self):
        for letter in LETTERS:
            self.assertIsNone(check_alphabet(letter))

    def test_no_alphabets(self):
        wrong = ["", "abcdefghi", "aa", "aba", "abcdefga", "a b", " ", "a" * 9, "ab" * 500, LETTERS]
        for letters in wrong + list(NO_LETTERS) + ["ab" + sign for sign in NO_LETTERS]:
            self.assertEqual(reason(check_alphabet, letters), (BadAlphabet, letters))

    def test_the_family(self):
        with self.assertRaises(LetterError):
            check_alphabet("")
        with self.assertRaises(LetterError):
            check_text("a", "b")


class TextTest(unittest.TestCase):
    def test_texts(self):
        for letters, text in (("a", ""), ("a", "aaa"), ("ba", "ab"), ("abcdefgh", "hgfedcba"), ("<0", "<<00"),
                              ("ab", "ab" * 500), ("a", "")):
            self.assertIs(is_text(letters, text), True)
            self.assertIsNone(check_text(letters, text))

    def test_strings_that_are_no_texts(self):
        for letters, text in (("a", "b"), ("ab", "abc"), ("ab", "cab"), ("ab", "aAb"), ("ab", " "), ("ab", "a b"),
                              ("a", "'"), ("ab", "ab" * 499 + "~")):
            self.assertIs(is_text(letters, text), False)
            self.assertEqual(reason(check_text, letters, text), (BadText, text))

    def test_all_of_the_letters_count_alone(self):
        # "ab" stands in the alphabet as a whole, and so does each text only letter by letter.
        self.assertTrue(is_text("abc", "ca"))
        self.assertFalse(is_text("ab", "ab "))


class OrderTest(unittest.TestCase):
    def test_order_key(self):
        self.assertEqual(order_key("ba", ""), (0, ()))
        self.assertEqual(order_key("ba", "a"), (1, (1,)))
        self.assertEqual(order_key("zax", "xzaz"), (4, (2, 0, 1, 0)))
        self.assertEqual(order_key("hgfedcba", "abh"), (3, (7, 6, 0)))

    def test_texts_in_order(self):
        found = [text for length in range(3) for text in texts_of("ba", length)]
        self.assertEqual(found, ["", "b", "a", "bb", "ba", "ab", "aa"])
        self.assertEqual(sorted(sorted(found), key=lambda text: order_key("ba", text)), found)

    def test_texts_of_the_document(self):
        self.assertEqual(list(texts_of("ba", 2)), ["bb", "ba", "ab", "aa"])

    def test_texts_of_length_0(self):
        self.assertEqual(list(texts_of("ba", 0)), [""])
        self.assertEqual(list(texts_of("a", 0)), [""])

    def test_texts_of_one_letter(self):
        self.assertEqual(list(texts_of("x", 5)), ["xxxxx"])

    def test_all_texts_are_there(self):
        for letters in ("cab", "Z_a0", "hgfedcba"):
            for length in range(4):
                wanted = ["".join(row) for row in itertools.product(letters, repeat=length)]
                self.assertEqual(list(texts_of(letters, length)), wanted)

    def test_texts_come_one_by_one(self):
        # There are far too many of this length to make them all before the first is told.
        first = itertools.islice(texts_of("ba", 300), 3)
        self.assertEqual(list(first), ["b" * 300, "b" * 299 + "a", "b" * 298 + "ab"])

    def test_texts_of_is_a_generator_and_begins_anew(self):
        texts = texts_of("ab", 1)
        self.assertIs(iter(texts), texts)
        self.assertEqual(next(texts), "a")
        self.assertEqual(list(texts_of("ab", 1)), ["a", "b"])
        self.assertEqual(list(texts), ["b"])


if __name__ == "__main__":
    unittest.main()
