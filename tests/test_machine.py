"""Points 3.1 and 0.5: machines."""

import unittest

from anytext.errors import BadMachine, LetterError, MachineError, ProgramError
from anytext.machines.machine import Machine
from helpers import reason

# Of the texts over "ba" in which the number of "a" is even.
EVEN = Machine("ba", [True, False], [[0, 1], [1, 0]])


class MachineTest(unittest.TestCase):
    def test_attributes(self):
        self.assertEqual(EVEN.letters, "ba")
        self.assertEqual(EVEN.accepting, (True, False))
        self.assertEqual(EVEN.table, ((0, 1), (1, 0)))

    def test_parts_are_kept_as_tuples(self):
        for accepting, table in (([True, False], [[0, 1], [1, 0]]), ((True, False), ((0, 1), (1, 0))),
                                 ([True, False], ((0, 1), [1, 0])), ((True, False), [(0, 1), (1, 0)])):
            machine = Machine("ba", accepting, table)
            self.assertEqual(machine.picture(), ("ba", (True, False), ((0, 1), (1, 0))))
            self.assertIs(type(machine.accepting), tuple)
            self.assertIs(type(machine.table), tuple)
            self.assertEqual([type(row) for row in machine.table], [tuple, tuple])

    def test_run(self):
        self.assertEqual([EVEN.run(text) for text in ("", "b", "a", "ab", "aa", "baba")], [0, 0, 1, 1, 0, 0])

    def test_letters_go_by_their_places_in_the_alphabet(self):
        self.assertEqual(Machine("ba", [True, False, True], [[1, 2], [1, 1], [2, 2]]).run("b"), 1)
        self.assertEqual(Machine("ab", [True, False, True], [[1, 2], [1, 1], [2, 2]]).run("b"), 2)

    def test_accepts(self):
        self.assertEqual([EVEN.accepts(text) for text in ("", "b", "a", "ab", "aba")],
                         [True, True, False, False, True])
        self.assertIs(EVEN.accepts(""), True)
        self.assertIs(EVEN.accepts("a"), False)

    def test_what_is_changed_later_has_no_effect(self):
        accepting = [True, False]
        table = [[0, 1], [1, 0]]
        machine = Machine("ba", accepting, table)
        accepting[0] = False
        accepting.append(True)
        table[0][1] = 0
        table.append([0, 0])
        self.assertEqual(machine.picture(), EVEN.picture())
        self.assertFalse(machine.accepts("a"))

    def test_what_is_passed_stays_as_it_was(self):
        accepting = [True, False]
        table = [[0, 1], (1, 0)]
        Machine("ba", accepting, table).accepts("ab")
        self.assertEqual((accepting, table), ([True, False], [[0, 1], (1, 0)]))

    def test_one_state(self):
        machine = Machine("a", [True], [[0]])
        self.assertEqual(machine.picture(), ("a", (True,), ((0,),)))
        self.assertTrue(machine.accepts("a" * 1000))
        self.assertFalse(Machine("abcdefgh", [False], [[0] * 8]).accepts("hgf"))

    def test_a_ring_of_2000_states(self):
        ring = Machine("ab", [state == 1999 for state in range(2000)],
                       [[(state + 1) % 2000, state] for state in range(2000)])
        self.assertEqual(ring.run("a" * 999 + "b"), 999)
        self.assertTrue(ring.accepts("ab" * 1999))
        self.assertFalse(ring.accepts("ab" * 2000))


class FaultsTest(unittest.TestCase):
    def fault(self, accepting, table, letters="ab"):
        self.assertEqual(reason(Machine, letters, accepting, table), (BadMachine, None))
        self.assertEqual(reason(Machine, letters, tuple(accepting), tuple(tuple(row) for row in table)),
                         (BadMachine, None))

    def test_no_state(self):
        self.fault([], [])

    def test_no_state_but_a_row(self):
        self.fault([], [[0, 0]])

    def test_a_row_too_few(self):
        self.fault([True, False], [[0, 1]])
        self.fault([True], [])

    def test_a_row_too_many(self):
        self.fault([True], [[0, 0], [0, 0]])

    def test_a_next_state_too_few(self):
        self.fault([True, False], [[0, 1], [0]])
        self.fault([True, False], [[], [0, 1]])
        self.fault([True], [[]], "a")

    def test_a_next_state_too_many(self):
        self.fault([True, False], [[0, 1, 1], [0, 1]])
        self.fault([True, False], [[0, 1], [0, 1, 0]])
        self.fault([True], [[0, 0]], "a")

    def test_a_next_state_below_0(self):
        self.fault([True, False], [[0, -1], [0, 1]])
        self.fault([True, False], [[0, 1], [-2, 1]])

    def test_a_next_state_beyond_the_states(self):
        self.fault([True, False], [[0, 1], [0, 2]])
        self.fault([True, False], [[999999999, 1], [0, 1]])
        self.fault([True], [[1]], "a")

    def test_the_family(self):
        with self.assertRaises(MachineError) as caught:
            Machine("ab", [], [])
        self.assertNotIsInstance(caught.exception, (LetterError, ProgramError))


if __name__ == "__main__":
    unittest.main()
