"""Point 3.2: least machines."""

import unittest

from anytext.machines.least import least
from anytext.machines.machine import Machine
from helpers import accepted, doubled, is_least, random_machine, renumbered, seeded


class LeastTest(unittest.TestCase):
    def test_the_document(self):
        machine = Machine("ab", [False, True, True], [[2, 0], [1, 1], [1, 0]])
        self.assertEqual(least(machine).picture(), ("ab", (False, True, True), ((1, 0), (2, 0), (2, 2))))

    def test_states_that_nothing_leads_to(self):
        machine = Machine("ab", [True, False, False, True], [[2, 0], [3, 0], [0, 2], [1, 1]])
        self.assertEqual(least(machine).picture(), ("ab", (True, False), ((1, 0), (0, 1))))

    def test_no_text_and_all_texts(self):
        for accepting in (False, True):
            wanted = ("cab", (accepting,), ((0, 0, 0),))
            self.assertEqual(least(Machine("cab", [accepting], [[0, 0, 0]])).picture(), wanted)
            many = Machine("cab", [accepting] * 5, [[1, 2, 3], [4, 4, 0], [2, 2, 1], [3, 3, 3], [0, 1, 2]])
            self.assertEqual(least(many).picture(), wanted)
            hidden = Machine("cab", [accepting, not accepting], [[0, 0, 0], [1, 0, 1]])
            self.assertEqual(least(hidden).picture(), wanted)

    def test_the_order_goes_by_the_alphabet(self):
        # Over "ba" the letter b leads to state 1, over "ab" the letter a does.
        table = [[2, 1], [1, 1], [2, 0]]
        self.assertEqual(least(Machine("ba", [False, True, False], table)).picture(),
                         ("ba", (False, False, True), ((1, 2), (1, 0), (2, 2))))

    def test_the_order_of_longer_texts(self):
        # "bb" leads to one state, "ba" to the next one, then "ab" and "aa".
        table = [[5, 6], [1, 0], [2, 1], [3, 2], [4, 3], [4, 3], [2, 1]]
        machine = Machine("ba", [False, True, False, True, False, True, False], table)
        self.assertTrue(is_least(least(machine)))
        self.assertEqual(accepted(least(machine), 6), accepted(machine, 6))

    def test_a_path_of_a_hundred_states(self):
        for letters in ("a", "ba"):
            path = Machine(letters, [state == 99 for state in range(101)],
                           [[min(state + 1, 100)] * len(letters) for state in range(101)])
            self.assertEqual(least(path).picture(), path.picture())
            self.assertEqual(least(doubled(path)).picture(), path.picture())
            self.assertEqual(least(renumbered(seeded(8), path)).picture(), path.picture())

    def test_a_ring_of_2000_states(self):
        rows = [[(state + 1) % 2000, state] for state in range(2000)]
        ring = Machine("ab", [state == 0 for state in range(2000)], rows)
        self.assertEqual(least(ring).picture(), ring.picture())
        tens = Machine("ab", [state % 10 == 0 for state in range(2000)], rows)
        self.assertEqual(least(tens).picture(),
                         ("ab", (True,) + (False,) * 9, tuple(((state + 1) % 10, state) for state in range(10))))

    def test_random_machines(self):
        rng = seeded(9)
        for letters in ("a", "ba", "cab"):
            for _ in range(150):
                machine = random_machine(rng, letters, rng.randint(1, 9))
                found = least(machine)
                self.assertTrue(is_least(found), machine.picture())
                self.assertEqual(accepted(found, 5), accepted(machine, 5))

    def test_the_same_picture_for_the_same_texts(self):
        rng = seeded(10)
        for letters in ("a", "ba", "hgfedcba"):
            for _ in range(50):
                machine = random_machine(rng, letters, rng.randint(1, 12))
                found = least(machine)
                self.assertEqual(least(found).picture(), found.picture())
                self.assertEqual(least(doubled(machine)).picture(), found.picture())
                self.assertEqual(least(renumbered(rng, machine)).picture(), found.picture())

    def test_all_pairs_of_small_machines(self):
        # Two machines with few states that accept the same short texts accept the same at all.
        rng = seeded(11)
        seen = {}
        for _ in range(300):
            machine = random_machine(rng, "ba", rng.randint(1, 3))
            picture = least(machine).picture()
            self.assertEqual(seen.setdefault(tuple(accepted(machine, 5)), picture), picture)

    def test_the_machine_stays_as_it_was(self):
        machine = Machine("ab", [False, True, True], [[2, 0], [1, 1], [1, 0]])
        before = machine.picture()
        least(machine)
        self.assertEqual(machine.picture(), before)


if __name__ == "__main__":
    unittest.main()
