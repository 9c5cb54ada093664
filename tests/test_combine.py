"""Point 3.2: machines of two machines, and of the texts that lead to or from a state."""

import unittest

from anytext.machines.combine import both, either, minus, opposite, since, until
from anytext.machines.least import least
from anytext.machines.machine import Machine
from anytext.machines.search import useful
from helpers import accepted, is_least, random_machine, seeded, texts_up_to

NOTHING = Machine("ab", [False], [[0, 0]])
EVERYTHING = Machine("ab", [True], [[0, 0]])
ALPHABETS = ("a", "ba", "cab")


class CombineTest(unittest.TestCase):
    def holds(self, machine, told):
        texts = texts_up_to(machine.letters, 5)
        self.assertEqual(accepted(machine, 5), [text for text in texts if told(text)])
        self.assertTrue(is_least(machine))


class TwoMachinesTest(CombineTest):
    def setUp(self):
        rng = seeded(13)
        self.pairs = [(random_machine(rng, letters, rng.randint(1, 5)), random_machine(rng, letters, rng.randint(1, 5)))
                      for letters in ALPHABETS for _ in range(40)]

    def stays(self, combine):
        for first, second in self.pairs:
            before = (first.picture(), second.picture())
            found = combine(first, second)
            self.assertEqual(found.picture(), combine(first, second).picture())
            self.assertEqual((first.picture(), second.picture()), before)
            self.assertEqual(found.letters, first.letters)

    def test_both(self):
        for first, second in self.pairs:
            self.holds(both(first, second), lambda text: first.accepts(text) and second.accepts(text))
            self.assertEqual(both(first, second).picture(), both(second, first).picture())
        self.stays(both)

    def test_either(self):
        for first, second in self.pairs:
            self.holds(either(first, second), lambda text: first.accepts(text) or second.accepts(text))
            self.assertEqual(either(first, second).picture(), either(second, first).picture())
        self.stays(either)

    def test_minus(self):
        for first, second in self.pairs:
            self.holds(minus(first, second), lambda text: first.accepts(text) and not second.accepts(text))
            self.assertEqual(minus(first, second).picture(), both(first, opposite(second)).picture())
        self.stays(minus)

    def test_opposite(self):
        for first, _ in self.pairs:
            before = first.picture()
            self.holds(opposite(first), lambda text: not first.accepts(text))
            self.assertEqual(opposite(opposite(first)).picture(), least(first).picture())
            self.assertEqual(first.picture(), before)

    def test_a_machine_with_itself(self):
        for first, _ in self.pairs:
            self.assertEqual(both(first, first).picture(), least(first).picture())
            self.assertEqual(either(first, first).picture(), least(first).picture())
            self.assertEqual(len(minus(first, first).accepting), 1)
            self.assertEqual(minus(first, first).accepting, (False,))

    def test_no_text_and_all_texts(self):
        for first, second, wanted in ((NOTHING, NOTHING, (False, False, False)),
                                      (NOTHING, EVERYTHING, (False, True, False)),
                                      (EVERYTHING, NOTHING, (False, True, True)),
                                      (EVERYTHING, EVERYTHING, (True, True, False))):
            found = (both(first, second), either(first, second), minus(first, second))
            self.assertEqual([machine.picture() for machine in found],
                             [("ab", (told,), ((0, 0),)) for told in wanted])
        self.assertEqual(opposite(NOTHING).picture(), EVERYTHING.picture())
        self.assertEqual(opposite(EVERYTHING).picture(), NOTHING.picture())

    def test_states_are_numbered_by_the_least_texts(self):
        # Of the texts with "b" in them, and of those with "a" in them; "b" comes before "a".
        with_b = Machine("ba", [False, True], [[1, 0], [1, 1]])
        with_a = Machine("ba", [False, True], [[0, 1], [1, 1]])
        self.assertEqual(both(with_b, with_a).picture(),
                         ("ba", (False, False, False, True), ((1, 2), (1, 3), (3, 2), (3, 3))))
        self.assertEqual(minus(with_a, with_b).picture(), ("ba", (False, False, True), ((1, 2), (1, 1), (1, 2))))
        self.assertEqual(either(with_a, with_b).picture(), ("ba", (False, True), ((1, 1), (1, 1))))

    def test_rings_whose_lengths_have_no_common_part(self):
        rings = [Machine("a", [state == 0 for state in range(many)], [[(state + 1) % many] for state in range(many)])
                 for many in (40, 41)]
        self.assertEqual(len(both(*rings).accepting), 1640)
        self.assertTrue(both(*rings).accepts("a" * 1640))


class StateTest(CombineTest):
    """`until` and `since`, for each state."""

    def whole(self, machine):
        before = machine.picture()
        for state in range(len(machine.accepting)):
            self.holds(until(machine, state), lambda text: machine.run(text) == state)
            self.holds(since(machine, state), lambda text: machine.accepting[self.run_on(machine, state, text)])
            # A state is useful exactly if some text leads there and some text leads on from it.
            useless = False in (True in until(machine, state).accepting, True in since(machine, state).accepting)
            self.assertEqual(state in useful(machine), not useless)
        self.assertEqual(machine.picture(), before)

    def run_on(self, machine, state, text):
        for letter in text:
            state = machine.table[state][machine.letters.index(letter)]
        return state

    def test_random_machines(self):
        rng = seeded(22)
        for letters in ALPHABETS:
            for _ in range(40):
                self.whole(random_machine(rng, letters, rng.randint(1, 5)))

    def test_states_that_nothing_leads_to_and_states_that_lead_to_nothing(self):
        # State 1 leads to no accepting state, to state 2 nothing leads, to 3 neither and it leads nowhere else.
        machine = Machine("ab", [True, False, True, False], [[0, 1], [1, 1], [0, 3], [3, 3]])
        self.whole(machine)
        self.assertEqual(until(machine, 0).picture(), ("ab", (True, False), ((0, 1), (1, 1))))
        self.assertEqual(until(machine, 1).picture(), ("ab", (False, True), ((0, 1), (1, 1))))
        self.assertEqual(since(machine, 0).picture(), ("ab", (True, False), ((0, 1), (1, 1))))
        for found in (until(machine, 2), until(machine, 3), since(machine, 1), since(machine, 3)):
            self.assertEqual(found.picture(), NOTHING.picture())
        self.assertEqual(since(machine, 2).picture(), ("ab", (True, False), ((0, 1), (1, 1))))
        self.assertEqual(useful(machine), [0])

    def test_state_0(self):
        rng = seeded(23)
        for letters in ALPHABETS:
            for _ in range(20):
                machine = random_machine(rng, letters, rng.randint(1, 6))
                self.assertEqual(since(machine, 0).picture(), least(machine).picture())
                self.assertTrue(until(machine, 0).accepts(""))

    def test_one_state(self):
        self.assertEqual(until(NOTHING, 0).picture(), EVERYTHING.picture())
        self.assertEqual(since(NOTHING, 0).picture(), NOTHING.picture())
        self.assertEqual(since(EVERYTHING, 0).picture(), EVERYTHING.picture())

    def test_a_ring_of_2000_states(self):
        ring = Machine("ab", [state == 1999 for state in range(2000)],
                       [[(state + 1) % 2000, state] for state in range(2000)])
        self.assertTrue(until(ring, 700).accepts("ba" * 700))
        self.assertTrue(since(ring, 700).accepts("ab" * 1299))
        self.assertFalse(since(ring, 700).accepts("ab" * 1300))


if __name__ == "__main__":
    unittest.main()
