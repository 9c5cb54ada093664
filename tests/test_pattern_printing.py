"""Points 2.1 and 2.4: printing patterns."""

import unittest

from anytext.errors import PatternError, SizeError
from anytext.patterns.printing import print_pattern
from anytext.patterns.reader import read_pattern
from anytext.patterns.terms import size
from helpers import random_pattern, reason, seeded

A = ("one", "a")
B = ("one", "b")
ANY = ("one", "ab")
NONE = ("none",)
EMPTY = ("empty",)
NOT = ("not", A)
STAR = ("star", A)
JOIN = ("join", A, B)
EITHER = ("either", A, B)
BOTH = ("both", A, B)

# Each kind of term with its notation over "ab", as a word and in brackets.
TERMS = [(NONE, "[]"), (EMPTY, "()"), (A, "a"), (ANY, "."), (NOT, "!a"), (STAR, "a*"), (JOIN, "ab"), (BOTH, "a&b"),
         (EITHER, "a|b")]
# From which of these terms on brackets are needed in each place.
NEEDS = [("either", "|", 9, 8), ("both", "&", 8, 7), ("join", "", 7, 6)]


def plainly_printed(letters, pattern, asked=0):
    """Point 2.4, word by word, for patterns that are not deep."""
    kind = pattern[0]
    if kind == "one":
        kept = pattern[1]
        return kept if len(kept) == 1 else "." if kept == letters else f"[{kept}]"
    if kind in ("none", "empty"):
        return {"none": "[]", "empty": "()"}[kind]
    strength, places, sign = {"either": (0, (0, 1), "|"), "both": (1, (1, 2), "&"), "join": (2, (2, 3), ""),
                              "not": (3, (3,), ""), "star": (4, (4,), "")}[kind]
    parts = [plainly_printed(letters, part, place) for part, place in zip(pattern[1:], places)]
    found = sign.join(parts)
    if kind in ("not", "star"):
        found = "!" + found if kind == "not" else found + "*"
    return f"({found})" if strength < asked else found


class PrintTest(unittest.TestCase):
    def prints(self, pattern, notation, letters="ab"):
        self.assertEqual(print_pattern(letters, pattern), notation)
        if len(notation) <= 400 and size(pattern) <= 100:
            self.assertEqual(read_pattern(letters, notation), pattern)

    def test_the_document(self):
        self.prints(("star", ("join", A, ("join", NONE, ANY))), "(a([].))*")

    def test_each_kind(self):
        for term, notation in TERMS:
            self.prints(term, notation)

    def test_letters(self):
        self.prints(("one", "b"), "b")
        self.prints(("one", "a"), "a", "a")
        self.prints(("one", "ab"), ".", "ab")
        self.prints(("one", "ba"), ".", "ba")
        self.prints(("one", "ab"), "[ab]", "abc")
        self.prints(("one", "cb"), "[cb]", "cab")
        self.prints(("one", "<>=:_@#Z"), ".", "<>=:_@#Z")
        self.prints(("one", "<>=:_@#"), "[<>=:_@#]", "<>=:_@#Z")
        self.prints(("one", "hgfedcba"), ".", "hgfedcba")

    def test_each_kind_under_not_and_star(self):
        for index, (term, notation) in enumerate(TERMS):
            self.prints(("not", term), "!" + (notation if index < 6 else f"({notation})"))
            plain = index < 4 or term == STAR
            self.prints(("star", term), (notation if plain else f"({notation})") + "*")

    def test_each_kind_on_the_left_and_on_the_right(self):
        for kind, sign, from_left, from_right in NEEDS:
            for left, (one, before) in enumerate(TERMS):
                for right, (other, behind) in enumerate(TERMS):
                    wanted = (before if left < from_left else f"({before})") + sign
                    wanted += behind if right < from_right else f"({behind})"
                    self.prints((kind, one, other), wanted)

    def test_nested_on_the_left_and_on_the_right(self):
        for kind, sign, *_ in NEEDS:
            self.prints((kind, (kind, A, B), A), sign.join("aba"))
            self.prints((kind, A, (kind, B, A)), f"a{sign}(b{sign}a)")
            self.prints((kind, (kind, A, (kind, B, A)), (kind, A, B)), f"a{sign}(b{sign}a){sign}(a{sign}b)")

    def test_nots_and_stars(self):
        self.prints(("not", ("not", A)), "!!a")
        self.prints(("star", ("star", A)), "a**")
        self.prints(("not", ("star", A)), "!a*")
        self.prints(("star", ("not", A)), "(!a)*")
        self.prints(("not", ("star", ("not", ("star", A)))), "!(!a*)*")
        self.prints(("join", ("not", A), ("star", ("not", B))), "!a(!b)*")
        self.prints(("join", A, ("not", ("join", A, B))), "a!(ab)")
        self.prints(("star", ("join", NONE, EMPTY)), "([]())*")

    def test_none_and_empty(self):
        self.prints(("join", EMPTY, EMPTY), "()()")
        self.prints(("join", NONE, A), "[]a")
        self.prints(("star", NONE), "[]*")
        self.prints(("star", EMPTY), "()*")
        self.prints(("either", EMPTY, A), "()|a")
        self.prints(("both", EMPTY, NONE), "()&[]")
        self.prints(("join", ("either", EMPTY, A), EMPTY), "(()|a)()")

    def test_what_reading_makes_of_the_signs(self):
        for notation, printed in (("a+", "aa*"), ("a?", "()|a"), ("a{2,3}", "aa(()|a)"), ("a{0}", "()"), ("", "()"),
                                  ("[^a]", "b"), ("[ba]", "."), ("[^ab]", "[]"), ("a|b|a&b", "a|b|a&b"),
                                  ("a(b)", "ab"), ("((a|b))(b)", "(a|b)b"), ("a|", "a|()")):
            self.prints(read_pattern("ab", notation), printed)

    def test_random_patterns(self):
        rng = seeded(20)
        for letters in ("a", "ba", "cab"):
            for depth in range(7):
                for _ in range(60):
                    pattern = random_pattern(rng, letters, depth)
                    self.prints(pattern, plainly_printed(letters, pattern), letters)

    def test_the_pattern_stays_as_it_was_and_the_answer_is_the_same(self):
        pattern = read_pattern("ab", "!(ab)*|b")
        self.assertEqual(print_pattern("ab", pattern), print_pattern("ab", pattern))
        self.assertEqual(pattern, read_pattern("ab", "!(ab)*|b"))


class LargePatternsTest(unittest.TestCase):
    def test_300_terms_deep(self):
        found = A
        for _ in range(299):
            found = ("not", found)
        self.assertEqual(size(found), 300)
        self.assertEqual(print_pattern("ab", found), "!" * 299 + "a")
        found = A
        for _ in range(299):
            found = ("star", found)
        self.assertEqual(print_pattern("ab", found), "a" + "*" * 299)
        found = A
        for _ in range(149):
            found = ("star", ("not", found))
        self.assertEqual(print_pattern("ab", found), "(!" * 149 + "a" + ")*" * 149)

    def test_two_parts_300_deep(self):
        for kind, sign, *_ in NEEDS:
            left = right = A
            for _ in range(300):
                left = (kind, left, B)
                right = (kind, B, right)
            self.assertEqual(print_pattern("ab", left), "a" + (sign + "b") * 300)
            self.assertEqual(print_pattern("ab", right), f"b{sign}(" * 299 + f"b{sign}a" + ")" * 299)

    def test_either_within_star_300_deep(self):
        found = A
        for _ in range(150):
            found = ("star", ("either", B, found))
        self.assertEqual(print_pattern("ab", found), "(b|" * 150 + "a" + ")*" * 150)

    def test_100_terms_are_read_again(self):
        found = A
        for _ in range(99):
            found = ("not", found)
        self.assertEqual(read_pattern("ab", print_pattern("ab", found)), found)
        self.assertEqual(reason(read_pattern, "ab", print_pattern("ab", ("not", found)))[0].__mro__[1], SizeError)

    def test_twelve_brackets_are_read_again(self):
        found = A
        for _ in range(12):
            found = ("join", B, ("either", found, B))
        notation = print_pattern("ab", found)
        self.assertEqual(notation, "b(" * 12 + "a" + "|b)" * 12)
        self.assertEqual(read_pattern("ab", notation), found)

    def test_brackets_are_faults_nowhere_else(self):
        # What is printed is always in the notation, though it may go beyond its limits.
        found = A
        for _ in range(60):
            found = ("join", ("not", ("star", ("either", found, EMPTY))), NONE)
            error = reason(read_pattern, "ab", print_pattern("ab", found))
            self.assertFalse(error is not None and issubclass(error[0], PatternError))


if __name__ == "__main__":
    unittest.main()
