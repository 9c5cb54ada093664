"""Point 3.2: patterns of machines."""

import unittest

from anytext.machines.build import machine_of
from anytext.machines.least import least
from anytext.machines.machine import Machine
from anytext.machines.rational import pattern_of
from anytext.patterns.meaning import belongs
from anytext.patterns.printing import print_pattern
from anytext.patterns.reader import read_pattern
from anytext.patterns.terms import flat_terms, size
from helpers import random_machine, seeded, texts_up_to

PARTS = {"none": 0, "empty": 0, "not": 1, "star": 1, "join": 2, "either": 2, "both": 2}


class PatternOfTest(unittest.TestCase):
    def holds(self, machine):
        before = machine.picture()
        pattern = pattern_of(machine)
        self.check_form(machine.letters, pattern)
        self.assertEqual(machine_of(machine.letters, pattern).picture(), least(machine).picture())
        self.assertEqual(pattern_of(machine), pattern)
        self.assertEqual(machine.picture(), before)
        return pattern

    def check_form(self, letters, pattern):
        """Point 2.1: it is a pattern over the alphabet."""
        self.assertIs(type(pattern), tuple)
        for term in flat_terms(pattern):
            if term[0] == "one":
                kept = [letter for letter in letters if letter in term[1]]
                self.assertEqual(term, ("one", "".join(kept)))
                self.assertNotEqual(kept, [])
            else:
                self.assertEqual(len(term), PARTS[term[0]] + 1)

    def test_one_to_five_states(self):
        rng = seeded(40)
        for letters in ("a", "ba", "cab"):
            for states in range(1, 6):
                for _ in range(40):
                    self.holds(random_machine(rng, letters, states))

    def test_all_machines_of_two_states(self):
        for bits in range(2 ** 6):
            told = [bits >> place & 1 for place in range(6)]
            self.holds(Machine("ba", [told[0] == 1, told[1] == 1], [told[2:4], told[4:6]]))

    def test_eight_letters(self):
        rng = seeded(41)
        for states in range(1, 6):
            for _ in range(5):
                self.holds(random_machine(rng, "hgfedcba", states))

    def test_no_text_all_texts_and_the_empty_text(self):
        self.assertEqual(least(machine_of("ab", self.holds(Machine("ab", [False], [[0, 0]])))).picture(),
                         ("ab", (False,), ((0, 0),)))
        self.holds(Machine("ab", [True], [[0, 0]]))
        self.holds(Machine("ab", [True, False], [[1, 1], [1, 1]]))
        self.holds(Machine("ab", [False, True], [[0, 0], [1, 1]]))
        self.holds(Machine("ab", [False, True], [[1, 1], [0, 0]]))

    def test_the_texts_belong_to_it(self):
        rng = seeded(42)
        for letters in ("a", "ba", "cab"):
            for _ in range(10):
                machine = random_machine(rng, letters, 5)
                pattern = pattern_of(machine)
                for text in texts_up_to(letters, 4) + [letters[-1] * 60]:
                    self.assertEqual(belongs(pattern, text), machine.accepts(text))

    def test_it_may_be_passed_on_whatever_its_size(self):
        rng = seeded(43)
        largest = 0
        for _ in range(10):
            pattern = pattern_of(random_machine(rng, "hgfedcba", 5))
            largest = max(largest, size(pattern))
            notation = print_pattern("hgfedcba", pattern)
            if len(notation) <= 400 and size(pattern) <= 100:
                self.assertEqual(read_pattern("hgfedcba", notation), pattern)
        self.assertGreater(largest, 300)

    def test_a_ring_of_five_states(self):
        for step in (1, 2, 3, 4):
            for goal in range(5):
                self.holds(Machine("ab", [state == goal for state in range(5)],
                                   [[(state + step) % 5, state] for state in range(5)]))


if __name__ == "__main__":
    unittest.main()
