"""Points 0.2, 2.1 and 3.2: the machines of patterns."""

import unittest

from anytext.machines.build import machine_of
from anytext.machines.search import parting
from anytext.patterns.meaning import belongs
from anytext.patterns.reader import read_pattern
from helpers import accepted, is_least, random_pattern, seeded, texts_up_to

A = ("one", "a")


class MachineOfTest(unittest.TestCase):
    def holds(self, letters, pattern, length=5):
        machine = machine_of(letters, pattern)
        self.assertEqual(accepted(machine, length),
                         [text for text in texts_up_to(letters, length) if belongs(pattern, text)], pattern)
        self.assertTrue(is_least(machine), pattern)

    def test_leaves(self):
        self.assertEqual(machine_of("ab", ("none",)).picture(), ("ab", (False,), ((0, 0),)))
        self.assertEqual(machine_of("ab", ("empty",)).picture(), ("ab", (True, False), ((1, 1), (1, 1))))
        self.assertEqual(machine_of("ab", A).picture(), ("ab", (False, True, False), ((1, 2), (2, 2), (2, 2))))
        self.assertEqual(machine_of("ba", A).picture(), ("ba", (False, False, True), ((1, 2), (1, 1), (1, 1))))
        self.assertEqual(machine_of("a", A).picture(), ("a", (False, True, False), ((1,), (2,), (2,))))
        for letters in ("a", "ba", "cab"):
            for pattern in (("none",), ("empty",), A, ("one", letters)):
                self.holds(letters, pattern)

    def test_each_kind_over_one_two_and_three_letters(self):
        notations = ("", "[]", "[^]", "aa", "a|aa", ".*&..", "!a", "a*", "a+", "a?", "!(.*a)", "(a|aa)*", "(a{2,4})*",
                     "!(a*)a", "(!a)*", "(!(.)&!(..))*", "!(!(.*aa)a)", "(a?|!.)*", "(()|a*)*a", "!()&!(.)", "[]*", "[]a")
        for letters in ("a", "ba", "cab"):
            for notation in notations:
                self.holds(letters, read_pattern(letters, notation))

    def test_two_letters(self):
        for notation in ("(a|b)*a(a|b)", "(ab|ba)*&!(.*aa.*)", "!(.*aa.*)b", "(a!(b*))*", "(a*b&.a*b)*", "!(ab)*"):
            self.holds("ab", read_pattern("ab", notation))
            self.holds("ba", read_pattern("ba", notation))

    def test_three_letters(self):
        for notation in ("(a|b)*c", "!(.*ab.*)&!(.*c)", "([^a]*a[^a]*a)*[^a]*", "(a.|bc)*", "!([ab]*)!([bc]*)"):
            self.holds("cab", read_pattern("cab", notation))

    def test_random_patterns(self):
        rng = seeded(12)
        for letters in ("a", "ba", "cab"):
            for depth in (2, 3, 4, 5):
                for _ in range(40):
                    self.holds(letters, random_pattern(rng, letters, depth))

    def test_eight_letters(self):
        machine = machine_of("hgfedcba", read_pattern("hgfedcba", ".*a.*|[ah]*"))
        self.assertTrue(is_least(machine))
        self.assertTrue(machine.accepts("hah"))
        self.assertTrue(machine.accepts("hh"))
        self.assertFalse(machine.accepts("hbh"))

    def test_many_states(self):
        machine = machine_of("ab", read_pattern("ab", ".*a.{8}"))
        self.assertEqual(len(machine.accepting), 512)
        self.assertTrue(machine.accepts("bab" + "b" * 7))
        self.assertFalse(machine.accepts("baa" + "b" * 9))

    def test_deep_patterns(self):
        word = A
        for _ in range(149):
            word = ("join", word, A)
        self.assertEqual(len(machine_of("ab", word).accepting), 152)
        word = A
        for _ in range(149):
            word = ("join", A, word)
        self.assertTrue(machine_of("ab", word).accepts("a" * 150))
        self.assertFalse(machine_of("ab", word).accepts("a" * 149))
        found = A
        for _ in range(299):
            found = ("not", found)
        self.assertEqual(accepted(machine_of("ab", found), 2), ["", "b", "aa", "ab", "ba", "bb"])
        for _ in range(2000):
            found = ("star", ("not", found))
        self.assertTrue(is_least(machine_of("ab", found)))

    def test_the_pattern_stays_as_it_was_and_the_answer_is_the_same(self):
        pattern = read_pattern("ab", "!(ab)*|b")
        self.assertEqual(machine_of("ab", pattern).picture(), machine_of("ab", pattern).picture())
        self.assertEqual(pattern, read_pattern("ab", "!(ab)*|b"))


class SameTextsTest(unittest.TestCase):
    """Two patterns with the same texts have machines with the same picture."""

    def same(self, letters, *notations):
        machines = [machine_of(letters, read_pattern(letters, notation)) for notation in notations]
        for machine in machines:
            self.assertEqual(machine.picture(), machines[0].picture())
            self.assertIsNone(parting(machine, machines[0]))
            self.assertIsNone(parting(machines[0], machine))

    def test_the_same_texts(self):
        self.same("ab", "(a|b)*", ".*", "(a*b*)*", "!([])", "(a*b)*a*", "!(a&b)")
        self.same("ba", "!(.*aa.*)", "(b|ab)*a?", "b*(ab+)*a?", "(b*ab)*b*|(b*ab)*b*a")
        self.same("cab", "!(.*[^a].*)", "a*", "a**", "(aaa)*|a(aaa)*|(aaa)*aa", "!(!(a*))", "()|a+")
        self.same("a", "(aa|aaa)*", "!a", "a{2}a*|()", "()|aaa*")
        self.same("ab", "[]", "a&b", "[]*a[]", "!(.*)", "a[]", ".*&!(.*)")
        self.same("ab", "a{2,4}", "aa|aaa|aaaa", "aa(a?a?)", "a?aaa?")

    def test_other_texts(self):
        rng = seeded(15)
        for letters in ("a", "ba", "cab"):
            patterns = [random_pattern(rng, letters, 3) for _ in range(25)]
            machines = [machine_of(letters, pattern) for pattern in patterns]
            for one, first in zip(patterns, machines):
                for other, second in zip(patterns, machines):
                    text = parting(first, second)
                    self.assertEqual(text is None, first.picture() == second.picture())
                    if text is not None:
                        self.assertNotEqual(belongs(one, text), belongs(other, text))


if __name__ == "__main__":
    unittest.main()
