"""Points 2.1 and 3.2: the machines of patterns, and what they are made with."""

import unittest

from anytext.machines.build import machine_of
from anytext.machines.combine import both, either, opposite
from anytext.machines.lots import chained_texts, repetition
from anytext.machines.machine import Machine
from anytext.patterns.meaning import belongs
from anytext.patterns.reader import read_pattern
from helpers import accepted, is_least, random_machine, random_pattern, seeded, texts_up_to

A = ("one", "a")


class MachineOfTest(unittest.TestCase):
    def holds(self, letters, pattern, length=5):
        machine = machine_of(letters, pattern)
        self.assertEqual(accepted(machine, length),
                         [text for text in texts_up_to(letters, length) if belongs(pattern, text)], pattern)
        self.assertTrue(is_least(machine), pattern)

    def test_leaves(self):
        self.assertEqual(machine_of("ab", ("none",)).picture(), ("ab", (False,), ((0, 0),)))
        self.assertEqual(machine_of("ab", ("empty",)).picture(), ("ab", (True, False), ((1, 1), (1, 1))))
        self.assertEqual(machine_of("ab", A).picture(), ("ab", (False, True, False), ((1, 2), (2, 2), (2, 2))))
        self.assertEqual(machine_of("ba", A).picture(), ("ba", (False, False, True), ((1, 2), (1, 1), (1, 1))))
        self.assertEqual(machine_of("a", A).picture(), ("a", (False, True, False), ((1,), (2,), (2,))))
        for letters in ("a", "ba", "cab"):
            for pattern in (("none",), ("empty",), A, ("one", letters)):
                self.holds(letters, pattern)

    def test_each_kind_over_one_two_and_three_letters(self):
        notations = ("", "[]", "[^]", "aa", "a|aa", ".*&..", "!a", "a*", "a+", "a?", "!(.*a)", "(a|aa)*", "(a{2,4})*",
                     "!(a*)a", "(!a)*", "(!(.)&!(..))*", "!(!(.*aa)a)", "(a?|!.)*", "(()|a*)*a", "!()&!(.)", "[]*", "[]a")
        for letters in ("a", "ba", "cab"):
            for notation in notations:
                self.holds(letters, read_pattern(letters, notation))

    def test_two_letters(self):
        for notation in ("(a|b)*a(a|b)", "(ab|ba)*&!(.*aa.*)", "!(.*aa.*)b", "(a!(b*))*", "(a*b&.a*b)*", "!(ab)*"):
            self.holds("ab", read_pattern("ab", notation))
            self.holds("ba", read_pattern("ba", notation))

    def test_three_letters(self):
        for notation in ("(a|b)*c", "!(.*ab.*)&!(.*c)", "([^a]*a[^a]*a)*[^a]*", "(a.|bc)*", "!([ab]*)!([bc]*)"):
            self.holds("cab", read_pattern("cab", notation))

    def test_random_patterns(self):
        rng = seeded(12)
        for letters in ("a", "ba", "cab"):
            for depth in (2, 3, 4, 5):
                for _ in range(40):
                    self.holds(letters, random_pattern(rng, letters, depth))

    def test_eight_letters(self):
        machine = machine_of("hgfedcba", read_pattern("hgfedcba", ".*a.*|[ah]*"))
        self.assertTrue(is_least(machine))
        self.assertTrue(machine.accepts("hah"))
        self.assertTrue(machine.accepts("hh"))
        self.assertFalse(machine.accepts("hbh"))

    def test_many_states(self):
        machine = machine_of("ab", read_pattern("ab", ".*a.{8}"))
        self.assertEqual(len(machine.accepting), 512)
        self.assertTrue(machine.accepts("bab" + "b" * 7))
        self.assertFalse(machine.accepts("baa" + "b" * 9))

    def test_deep_patterns(self):
        word = A
        for _ in range(149):
            word = ("join", word, A)
        self.assertEqual(len(machine_of("ab", word).accepting), 152)
        word = A
        for _ in range(149):
            word = ("join", A, word)
        self.assertTrue(machine_of("ab", word).accepts("a" * 150))
        self.assertFalse(machine_of("ab", word).accepts("a" * 149))
        found = A
        for _ in range(299):
            found = ("not", found)
        self.assertEqual(accepted(machine_of("ab", found), 2), ["", "b", "aa", "ab", "ba", "bb"])
        for _ in range(2000):
            found = ("star", ("not", found))
        self.assertTrue(is_least(machine_of("ab", found)))

    def test_the_pattern_stays_as_it_was_and_the_answer_is_the_same(self):
        pattern = read_pattern("ab", "!(ab)*|b")
        self.assertEqual(machine_of("ab", pattern).picture(), machine_of("ab", pattern).picture())
        self.assertEqual(pattern, read_pattern("ab", "!(ab)*|b"))


class PartsTest(unittest.TestCase):
    """The machines with which those of patterns are made, for machines that are not least."""

    def setUp(self):
        rng = seeded(13)
        self.pairs = [(random_machine(rng, letters, rng.randint(1, 5)), random_machine(rng, letters, rng.randint(1, 5)))
                      for letters in ("a", "ba", "cab") for _ in range(40)]

    def holds(self, machine, told):
        texts = texts_up_to(machine.letters, 5)
        self.assertEqual(accepted(machine, 5), [text for text in texts if told(text)])
        self.assertTrue(is_least(machine))

    def test_both(self):
        for first, second in self.pairs:
            self.holds(both(first, second), lambda text: first.accepts(text) and second.accepts(text))

    def test_either(self):
        for first, second in self.pairs:
            self.holds(either(first, second), lambda text: first.accepts(text) or second.accepts(text))

    def test_opposite(self):
        for first, _ in self.pairs:
            self.holds(opposite(first), lambda text: not first.accepts(text))

    def test_chained_texts(self):
        for first, second in self.pairs:
            self.holds(chained_texts(first, second), lambda text: any(
                first.accepts(text[:place]) and second.accepts(text[place:]) for place in range(len(text) + 1)))

    def test_repetition(self):
        for machine, _ in self.pairs:
            known = {"": True}
            for text in texts_up_to(machine.letters, 5)[1:]:
                known[text] = any(machine.accepts(text[:place]) and known[text[place:]]
                                  for place in range(1, len(text) + 1))
            self.holds(repetition(machine), lambda text: known[text])

    def test_no_text_and_all_texts(self):
        nothing = Machine("ab", [False], [[0, 0]])
        everything = Machine("ab", [True], [[0, 0]])
        self.assertEqual(repetition(nothing).picture(), ("ab", (True, False), ((1, 1), (1, 1))))
        self.assertEqual(repetition(everything).picture(), everything.picture())
        self.assertEqual(chained_texts(nothing, everything).picture(), nothing.picture())
        self.assertEqual(chained_texts(everything, nothing).picture(), nothing.picture())
        self.assertEqual(chained_texts(everything, everything).picture(), everything.picture())
        self.assertEqual(opposite(nothing).picture(), everything.picture())
        self.assertEqual(both(nothing, everything).picture(), nothing.picture())
        self.assertEqual(either(nothing, everything).picture(), everything.picture())


if __name__ == "__main__":
    unittest.main()
