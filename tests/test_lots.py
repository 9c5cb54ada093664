"""Point 3.2: turned texts, chained texts and repetitions."""

import unittest

from anytext.machines.build import machine_of
from anytext.machines.least import least
from anytext.machines.lots import chained_texts, repetition, reversal
from anytext.machines.machine import Machine
from anytext.patterns.reader import read_pattern
from helpers import accepted, is_least, random_machine, seeded, texts_up_to

NOTHING = Machine("ab", [False], [[0, 0]])
EVERYTHING = Machine("ab", [True], [[0, 0]])
ONLY_EMPTY = Machine("ab", [True, False], [[1, 1], [1, 1]])
# The same texts as the three, but with more states than needed.
SPECIAL = [NOTHING, EVERYTHING, ONLY_EMPTY, Machine("ab", [False, False, True], [[1, 0], [0, 1], [0, 2]]),
           Machine("ab", [True, True, False], [[1, 0], [0, 1], [0, 2]]),
           Machine("ab", [True, False, False, True], [[1, 2], [2, 1], [1, 1], [0, 3]])]


def machine(letters, notation):
    """The machine of a pattern."""
    return machine_of(letters, read_pattern(letters, notation))


class LotsTest(unittest.TestCase):
    def setUp(self):
        rng = seeded(24)
        self.machines = list(SPECIAL)
        self.machines += [random_machine(rng, letters, rng.randint(1, 5)) for letters in ("a", "ba") for _ in range(30)]
        self.machines += [random_machine(rng, "cab", rng.randint(1, 4)) for _ in range(5)]
        self.pairs = [(first, second) for first in SPECIAL for second in SPECIAL]
        self.pairs += [tuple(random_machine(rng, letters, rng.randint(1, 5)) for _ in range(2))
                       for letters in ("a", "ba") for _ in range(30)]
        self.pairs += [tuple(random_machine(rng, "cab", rng.randint(1, 4)) for _ in range(2)) for _ in range(5)]

    def holds(self, found, told):
        self.assertEqual(accepted(found, 6), [text for text in texts_up_to(found.letters, 6) if told(text)])
        self.assertTrue(is_least(found))

    def test_reversal(self):
        for given in self.machines:
            before = given.picture()
            self.holds(reversal(given), lambda text: given.accepts(text[::-1]))
            self.assertEqual(reversal(reversal(given)).picture(), least(given).picture())
            self.assertEqual(given.picture(), before)

    def test_chained_texts(self):
        for first, second in self.pairs:
            before = (first.picture(), second.picture())
            self.holds(chained_texts(first, second), lambda text: any(
                first.accepts(text[:place]) and second.accepts(text[place:]) for place in range(len(text) + 1)))
            self.assertEqual((first.picture(), second.picture()), before)

    def test_repetition(self):
        for given in self.machines:
            before = given.picture()
            known = {"": True}
            for text in texts_up_to(given.letters, 6)[1:]:
                known[text] = any(given.accepts(text[:place]) and known[text[place:]]
                                  for place in range(1, len(text) + 1))
            self.holds(repetition(given), lambda text: known[text])
            self.assertEqual(repetition(repetition(given)).picture(), repetition(given).picture())
            self.assertEqual(given.picture(), before)

    def test_no_text_all_texts_and_the_empty_text(self):
        for given in SPECIAL:
            # None of these sets of texts is changed by turning the texts round.
            self.assertEqual(reversal(given).picture(), least(given).picture())
            for made in (chained_texts(NOTHING, given), chained_texts(given, NOTHING)):
                self.assertEqual(made.picture(), NOTHING.picture())
            for made in (chained_texts(ONLY_EMPTY, given), chained_texts(given, ONLY_EMPTY)):
                self.assertEqual(made.picture(), least(given).picture())
        self.assertEqual(chained_texts(EVERYTHING, EVERYTHING).picture(), EVERYTHING.picture())
        self.assertEqual([repetition(given).picture() for given in (NOTHING, EVERYTHING, ONLY_EMPTY)],
                         [ONLY_EMPTY.picture(), EVERYTHING.picture(), ONLY_EMPTY.picture()])

    def test_against_patterns(self):
        self.assertEqual(reversal(machine("ab", "ab*a.")).picture(), machine("ab", ".ab*a").picture())
        self.assertEqual(reversal(machine("cab", "!(.*ab.*)c")).picture(), machine("cab", "c!(.*ba.*)").picture())
        self.assertEqual(chained_texts(machine("ab", "a*"), machine("ab", "a*b")).picture(),
                         machine("ab", "a*b").picture())
        self.assertEqual(repetition(machine("ab", "a|ba")).picture(), machine("ab", "!(.*bb.*|.*b)").picture())

    def test_reversals_of_more_states(self):
        # The eighth letter from the end: 2 ** 8 states, and 10 states turned round.
        found = reversal(machine("ab", ".{7}a.*"))
        self.assertEqual(len(found.accepting), 256)
        self.assertTrue(found.accepts("bba" + "b" * 7))
        self.assertEqual(len(reversal(found).accepting), 10)

    def test_states_that_nothing_leads_to_cost_nothing(self):
        # The lots of these states would be more than 2 ** 20.
        hidden = [[state + 1, max(state, 2)] for state in range(1, 25)] + [[25, 25]]
        given = Machine("ab", [True] + [state == 25 for state in range(1, 26)], [[0, 0]] + hidden)
        self.assertEqual(reversal(given).picture(), EVERYTHING.picture())

    def test_a_ring_of_2000_states(self):
        ring = Machine("ab", [state == 3 for state in range(2000)],
                       [[(state + 1) % 2000, state] for state in range(2000)])
        self.assertEqual(reversal(ring).picture(), ring.picture())


if __name__ == "__main__":
    unittest.main()
