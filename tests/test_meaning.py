"""Point 2.1: the size of patterns, and the texts that belong to them."""

import unittest

from anytext.patterns.meaning import belongs
from anytext.patterns.reader import read_pattern
from anytext.patterns.terms import flat_terms, parts_of, size
from helpers import plainly_belongs, random_pattern, seeded, texts_up_to

A = ("one", "a")
B = ("one", "b")
ANY = ("one", "ab")
NONE = ("none",)
EMPTY = ("empty",)


def deep(kind, part, many, left=True):
    """The part, so many times under terms of this kind."""
    found = part
    for _ in range(many):
        if kind in ("not", "star"):
            found = (kind, found)
        else:
            found = (kind, found, part) if left else (kind, part, found)
    return found


class SizeTest(unittest.TestCase):
    def test_leaves(self):
        self.assertEqual([size(NONE), size(EMPTY), size(A), size(ANY)], [1, 1, 1, 1])

    def test_each_kind(self):
        self.assertEqual([size(("not", A)), size(("star", A))], [2, 2])
        self.assertEqual([size((kind, A, ("not", B))) for kind in ("join", "either", "both")], [4, 4, 4])

    def test_terms_that_stand_twice_count_twice(self):
        twice = ("join", ("star", A), ("star", A))
        self.assertEqual(size(("either", twice, twice)), 11)

    def test_deep_patterns(self):
        self.assertEqual(size(deep("not", A, 299)), 300)
        self.assertEqual(size(deep("join", A, 5000)), 10001)
        self.assertEqual(size(deep("both", A, 5000, left=False)), 10001)


class FlatTermsTest(unittest.TestCase):
    def test_parts(self):
        self.assertEqual(parts_of(A), ())
        self.assertEqual(parts_of(("star", A)), (A,))
        self.assertEqual(parts_of(("join", A, B)), (A, B))

    def test_each_term_once_and_parts_first(self):
        self.assertEqual(flat_terms(("join", ("either", B, A), ("star", B))),
                         [B, A, ("either", 0, 1), ("star", 0), ("join", 2, 3)])
        self.assertEqual(flat_terms(EMPTY), [EMPTY])


class BelongsTest(unittest.TestCase):
    def told(self, pattern, length=3):
        return [text for text in texts_up_to("ab", length) if belongs(pattern, text)]

    def test_leaves(self):
        self.assertEqual(self.told(NONE), [])
        self.assertEqual(self.told(EMPTY), [""])
        self.assertEqual(self.told(A), ["a"])
        self.assertEqual(self.told(ANY), ["a", "b"])

    def test_answers_are_true_and_false(self):
        self.assertIs(belongs(A, "a"), True)
        self.assertIs(belongs(A, "b"), False)

    def test_two_parts(self):
        self.assertEqual(self.told(("join", A, ANY)), ["aa", "ab"])
        self.assertEqual(self.told(("either", A, ("join", B, A))), ["a", "ba"])
        self.assertEqual(self.told(("both", ("join", A, ANY), ("join", ANY, B))), ["ab"])

    def test_not(self):
        self.assertEqual(self.told(("not", ANY), 2), ["", "aa", "ab", "ba", "bb"])
        self.assertEqual(self.told(("not", NONE), 1), ["", "a", "b"])

    def test_not_asks_whatever_the_alphabet(self):
        self.assertTrue(belongs(("not", A), "xyz"))
        self.assertTrue(belongs(("star", ("not", A)), "?"))
        self.assertFalse(belongs(("star", ANY), "abx"))

    def test_star(self):
        self.assertEqual(self.told(("star", A)), ["", "a", "aa", "aaa"])
        self.assertEqual(self.told(("star", NONE)), [""])
        self.assertEqual(self.told(("star", EMPTY)), [""])

    def test_star_of_what_has_the_empty_text(self):
        maybe = ("either", EMPTY, ("join", A, B))
        self.assertEqual(self.told(("star", maybe), 4), ["", "ab", "abab"])
        self.assertEqual(self.told(("star", ("star", ("either", EMPTY, A))), 2), ["", "a", "aa"])

    def test_not_and_both_within_star_and_join(self):
        self.assertEqual(self.told(("join", ("not", A), B), 2), ["b", "bb"])
        self.assertEqual(self.told(("star", ("both", ("join", ANY, ANY), ("not", ("join", A, A)))), 2),
                         ["", "ab", "ba", "bb"])
        # "a" is two texts of "no a" in no way, but "aa" is a single one.
        self.assertEqual(self.told(("star", ("not", A)), 2), ["", "b", "aa", "ab", "ba", "bb"])

    def test_random_patterns_word_by_word(self):
        rng = seeded(1)
        texts = texts_up_to("ab", 4)
        for _ in range(400):
            pattern = random_pattern(rng, "ab", 4)
            known = {}
            for text in texts:
                self.assertEqual(belongs(pattern, text), plainly_belongs(pattern, text, known), (pattern, text))

    def test_long_texts(self):
        third_from_last = read_pattern("ab", ".*a..")
        self.assertTrue(belongs(third_from_last, "b" * 57 + "aba"))
        self.assertFalse(belongs(third_from_last, "a" * 57 + "baa"))
        even = read_pattern("ab", "(b*ab*a)*b*")
        self.assertTrue(belongs(even, "ab" * 30))
        self.assertFalse(belongs(even, "ab" * 29 + "bb"))

    def test_patterns_that_many_ways_lead_through(self):
        many = read_pattern("ab", "((a*)*(a|aa)*)*b")
        self.assertFalse(belongs(many, "a" * 60))
        self.assertTrue(belongs(many, "a" * 59 + "b"))

    def test_patterns_of_300_terms(self):
        text = "ab" * 30
        self.assertTrue(belongs(deep("not", ("star", ANY), 298), text))
        self.assertFalse(belongs(deep("not", ("star", ANY), 297), text))
        self.assertTrue(belongs(deep("star", ANY, 299), text))
        self.assertTrue(belongs(deep("join", ("star", ("not", A)), 75), text))
        for left in (True, False):
            self.assertTrue(belongs(deep("join", ANY, 59, left), text))
            self.assertFalse(belongs(deep("join", ANY, 149, left), text))
            self.assertTrue(belongs(deep("either", ("star", ANY), 99, left), text))
            self.assertFalse(belongs(deep("both", A, 149, left), text))

    def test_not_and_star_by_turns_300_deep(self):
        found = ("join", A, B)
        for _ in range(149):
            found = ("star", ("not", found))
        self.assertEqual(size(found), 301)
        self.assertTrue(belongs(found, ""))
        self.assertIs(belongs(found, "ab" * 30), belongs(found, "ab" * 30))

    def test_the_pattern_stays_as_it_was(self):
        pattern = ("join", ("star", A), ("not", B))
        belongs(pattern, "aab")
        size(pattern)
        self.assertEqual(pattern, ("join", ("star", ("one", "a")), ("not", ("one", "b"))))


if __name__ == "__main__":
    unittest.main()
