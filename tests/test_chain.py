"""Point 4.1: two rewriters, one behind the other."""

import unittest

from anytext.rewriters.chain import in_turn
from anytext.rewriters.images import domain
from anytext.rewriters.rewriter import Rewriter
from helpers import random_rewriter, seeded, texts_up_to

SAME = Rewriter("ab", "", [""], [[(0, "a"), (0, "b")]])
DOUBLES = Rewriter("ab", "", [""], [[(0, "aa"), (0, "b")]])
# Refuses "b" behind "b", and texts that end in "b".
FEW = Rewriter("ab", "", ["", None], [[(0, "b"), (1, "a")], [(0, "a"), None]])
REFUSES = Rewriter("ab", "ab", [None], [[(0, "a"), (0, "b")]])


class InTurnTest(unittest.TestCase):
    def holds(self, first, second):
        before = (first.picture(), second.picture())
        found = in_turn(first, second)
        self.assertEqual(found.letters, first.letters)
        for text in texts_up_to(first.letters, 5):
            made = first.rewrite(text)
            self.assertEqual(found.rewrite(text), None if made is None else second.rewrite(made), text)
        self.assertEqual(in_turn(first, second).picture(), found.picture())
        self.assertEqual((first.picture(), second.picture()), before)
        self.assertEqual(Rewriter(*found.picture()).picture(), found.picture())

    def test_random_rewriters(self):
        rng = seeded(55)
        for letters in ("a", "ba", "cab"):
            for _ in range(60 if letters != "cab" else 15):
                refusing = rng.choice((0, 0.1, 0.3))
                self.holds(random_rewriter(rng, letters, rng.randint(1, 4), refusing, rng.choice((1, 2, 3))),
                           random_rewriter(rng, letters, rng.randint(1, 4), refusing, 2))

    def test_refusals_of_the_first_one(self):
        self.holds(FEW, SAME)
        self.holds(FEW, DOUBLES)
        self.holds(REFUSES, SAME)
        self.assertIsNone(in_turn(FEW, SAME).rewrite("bb"))
        self.assertIsNone(in_turn(FEW, SAME).rewrite("ab"))
        self.assertEqual(in_turn(FEW, DOUBLES).rewrite("aba"), "baaaa")

    def test_refusals_of_the_second_one(self):
        self.holds(SAME, FEW)
        self.holds(DOUBLES, FEW)
        self.holds(SAME, REFUSES)
        self.assertIsNone(in_turn(SAME, FEW).rewrite("abb"))
        self.assertIsNone(in_turn(SAME, FEW).rewrite("ab"))
        self.assertEqual(in_turn(DOUBLES, FEW).rewrite("aba"), "bb" + "a" + "a" + "b")

    def test_refusals_of_both(self):
        self.holds(FEW, FEW)
        self.holds(REFUSES, FEW)
        self.holds(REFUSES, REFUSES)

    def test_the_second_one_refuses_within_a_written_text(self):
        writes = Rewriter("ab", "", [""], [[(0, "abba"), (0, "ab")]])
        self.holds(writes, FEW)
        self.assertEqual([in_turn(writes, FEW).rewrite(text) for text in ("", "a", "b", "ba")], ["", None, None, None])
        # Its first letter is read in the state in which the second one stands then.
        self.holds(Rewriter("ab", "", [""], [[(0, "ba"), (0, "b")]]), FEW)

    def test_leads(self):
        one = Rewriter("ab", "aab", [""], [[(0, "a"), (0, "b")]])
        other = Rewriter("ab", "ba", ["", "a"], [[(0, "b"), (1, "")], [(0, "ab"), (1, "b")]])
        self.holds(one, other)
        self.holds(other, one)
        self.assertEqual(in_turn(one, other).rewrite(""), "ba" + "bb" + "a")
        self.assertEqual(in_turn(other, one).rewrite("ab"), "aab" + "ba" + "b" + "a")

    def test_ends(self):
        one = Rewriter("ab", "", ["ab", "b"], [[(1, "a"), (0, "b")], [(0, ""), None]])
        other = Rewriter("ab", "", ["b", "aa"], [[(0, "b"), (1, "")], [(0, "ab"), (1, "b")]])
        self.holds(one, other)
        self.holds(other, one)
        self.assertEqual(in_turn(one, other).rewrite("a"), "b" + "" + "aa")

    def test_the_second_one_refuses_the_lead(self):
        for lead in ("bb", "abba", "bba"):
            first = Rewriter("ab", lead, [""], [[(0, "a"), (0, "b")]])
            self.holds(first, FEW)
            self.assertEqual(domain(in_turn(first, FEW)).picture(), ("ab", (False,), ((0, 0),)))
        # Behind this lead it refuses only some texts.
        first = Rewriter("ab", "b", [""], [[(0, "a"), (0, "b")]])
        self.holds(first, FEW)
        self.assertEqual([in_turn(first, FEW).rewrite(text) for text in ("", "a", "b")], [None, "aa", None])

    def test_the_second_one_refuses_the_end(self):
        first = Rewriter("ab", "", ["bb"], [[(0, "a"), (0, "b")]])
        self.holds(first, FEW)
        self.assertIsNone(in_turn(first, FEW).rewrite(""))
        first = Rewriter("ab", "", ["ab"], [[(0, "a"), (0, "b")]])
        self.holds(first, FEW)
        self.assertIsNone(in_turn(first, FEW).rewrite("a"))

    def test_three_in_turn(self):
        rng = seeded(56)
        for _ in range(20):
            one, two, three = [random_rewriter(rng, "ba", rng.randint(1, 3), 0.1) for _ in range(3)]
            left, right = in_turn(in_turn(one, two), three), in_turn(one, in_turn(two, three))
            for text in texts_up_to("ba", 5):
                self.assertEqual(left.rewrite(text), right.rewrite(text))

    def test_long_texts(self):
        found = in_turn(in_turn(DOUBLES, DOUBLES), DOUBLES)
        self.assertEqual(found.rewrite("ab" * 450), ("a" * 8 + "b") * 450)


if __name__ == "__main__":
    unittest.main()
