"""Points 1.2, 3.2 and 3.3: least texts, useful states, and whether there are finitely many texts."""

import unittest

from anytext.machines.build import machine_of
from anytext.machines.combine import minus
from anytext.machines.machine import Machine
from anytext.machines.search import first_text, is_empty, is_finite, outside, parting, useful
from anytext.patterns.reader import read_pattern
from helpers import random_machine, seeded, texts_up_to

NOTHING = Machine("ab", [False], [[0, 0]])
EVERYTHING = Machine("ab", [True], [[0, 0]])
ALPHABETS = ("a", "ba", "cab")


def machine(letters, notation):
    """The machine of a pattern."""
    return machine_of(letters, read_pattern(letters, notation))


def path(letters, text):
    """A machine that accepts this text alone; its states are numbered from the end."""
    last = len(text)
    table = [[last + 1] * len(letters) for _ in range(last + 2)]
    order = [0] + list(range(last, 0, -1))
    for place, letter in enumerate(text):
        table[order[place]][letters.index(letter)] = order[place + 1]
    return Machine(letters, [state == order[last] for state in range(last + 2)], table)


def random_machines(number, most):
    """Machines over alphabets of one, two and three letters."""
    rng = seeded(number)
    return [random_machine(rng, letters, rng.randint(1, most)) for letters in ALPHABETS for _ in range(60)]


class FirstTextTest(unittest.TestCase):
    def test_random_machines(self):
        for given in random_machines(25, 5):
            # Each state is reached by a text that is shorter than there are states.
            wanted = [text for text in texts_up_to(given.letters, 4) if given.accepts(text)]
            self.assertEqual(first_text(given), wanted[0] if wanted else None)
            self.assertIs(is_empty(given), wanted == [])

    def test_no_text_and_all_texts(self):
        self.assertIsNone(first_text(NOTHING))
        self.assertEqual(first_text(EVERYTHING), "")
        self.assertIs(is_empty(NOTHING), True)
        self.assertIs(is_empty(EVERYTHING), False)
        self.assertIs(is_empty(Machine("ab", [False, True], [[0, 0], [1, 1]])), True)
        self.assertIsNone(first_text(Machine("ab", [False, True], [[0, 0], [1, 0]])))

    def test_a_shorter_text_comes_first(self):
        self.assertEqual(first_text(machine("ab", "aaa|bb")), "bb")
        self.assertEqual(first_text(machine("ab", "aaa|bb|()")), "")

    def test_the_first_place_where_they_differ(self):
        self.assertEqual(first_text(machine("ab", "bba|bab|abb")), "abb")
        self.assertEqual(first_text(machine("abc", "cca|bcc|bbc|ccc")), "bbc")

    def test_alphabets_in_other_orders(self):
        self.assertEqual(first_text(machine("ba", "bba|bab|abb")), "bba")
        self.assertEqual(first_text(machine("cab", "aa|ac|bc")), "ac")
        self.assertEqual(first_text(machine("#0aA", "A0|0A|a#")), "0A")
        self.assertEqual(first_text(machine("hgfedcba", "a[ah]|[ab]a")), "ba")

    def test_40_letters(self):
        self.assertEqual(first_text(machine("ba", ".{8}.{8}.{8}.{8}.{8}")), "b" * 40)
        text = "abbabaabbaabbabababbabaabbaabababbaababb"
        self.assertEqual(len(text), 40)
        for letters in ("ab", "ba", "cab"):
            self.assertEqual(first_text(path(letters, text)), text)

    def test_2000_states(self):
        self.assertEqual(first_text(path("ba", "ab" * 999)), "ab" * 999)

    def test_the_machine_stays_as_it_was(self):
        given = path("ab", "abba")
        before = given.picture()
        self.assertEqual(first_text(given), first_text(given))
        self.assertEqual(given.picture(), before)


class TwoMachinesTest(unittest.TestCase):
    def test_random_machines(self):
        rng = seeded(26)
        for letters in ALPHABETS:
            texts = texts_up_to(letters, 5)
            for _ in range(80):
                first = random_machine(rng, letters, rng.randint(1, 3))
                second = random_machine(rng, letters, rng.randint(1, 2))
                pictures = (first.picture(), second.picture())
                # There are at most six pairs of states, so the least text has at most five letters.
                only_first = [text for text in texts if first.accepts(text) and not second.accepts(text)]
                differ = [text for text in texts if first.accepts(text) != second.accepts(text)]
                self.assertEqual(outside(first, second), only_first[0] if only_first else None)
                self.assertEqual(parting(first, second), differ[0] if differ else None)
                self.assertEqual(parting(second, first), parting(first, second))
                self.assertEqual(outside(first, second), first_text(minus(first, second)))
                self.assertEqual((first.picture(), second.picture()), pictures)

    def test_no_text_and_all_texts(self):
        self.assertEqual([outside(EVERYTHING, NOTHING), outside(NOTHING, EVERYTHING), outside(NOTHING, NOTHING),
                          outside(EVERYTHING, EVERYTHING)], ["", None, None, None])
        self.assertEqual([parting(EVERYTHING, NOTHING), parting(NOTHING, EVERYTHING), parting(NOTHING, NOTHING),
                          parting(EVERYTHING, EVERYTHING)], ["", "", None, None])

    def test_the_same_texts_with_other_states(self):
        twice = Machine("ab", [True, False, True, False], [[1, 2], [3, 3], [3, 0], [3, 1]])
        once = machine("ab", "b*")
        self.assertIsNone(parting(twice, once))
        self.assertIsNone(outside(twice, once))
        self.assertIsNone(outside(once, twice))

    def test_fewer_texts(self):
        self.assertIsNone(outside(machine("ab", "ab|ba"), machine("ab", "..")))
        self.assertEqual(outside(machine("ab", ".."), machine("ab", "ab|ba")), "aa")
        self.assertEqual(outside(machine("ba", ".."), machine("ba", "ab|bb")), "ba")
        self.assertEqual(parting(machine("ba", ".."), machine("ba", "ab|bb")), "ba")

    def test_parting_takes_the_least_of_both_sides(self):
        first, second = machine("cab", "cc|ab"), machine("cab", "cc|ba")
        self.assertEqual([parting(first, second), outside(first, second), outside(second, first)], ["ab", "ab", "ba"])
        first, second = machine("abc", "ba|cab"), machine("abc", "cab|b")
        self.assertEqual([parting(first, second), outside(first, second), outside(second, first)], ["b", "ba", "b"])

    def test_40_letters(self):
        text = "abbabaabbaabbabababbabaabbaabababbaababb"
        every = machine("ba", ".*")
        self.assertEqual(outside(path("ba", text), path("ba", text[:39] + "a")), text)
        self.assertEqual(parting(path("ba", text), path("ba", text[:39] + "a")), text)
        self.assertEqual(parting(path("ab", text), path("ab", text[:39] + "a")), text[:39] + "a")
        self.assertEqual(outside(every, machine("ba", "!(b*a.{8}.{8}.{8}.{8}.{7})")), "a" + "b" * 39)

    def test_rings_whose_lengths_have_no_common_part(self):
        rings = [Machine("a", [state != many - 1 for state in range(many)],
                         [[(state + 1) % many] for state in range(many)]) for many in (6, 7)]
        self.assertEqual(parting(*rings), "a" * 5)
        self.assertEqual(outside(rings[0], rings[1]), "a" * 6)
        only = [Machine("a", [state == many - 1 for state in range(many)],
                        [[(state + 1) % many] for state in range(many)]) for many in (20, 21)]
        opposite = Machine("a", [not told for told in only[1].accepting], only[1].table)
        self.assertEqual(outside(only[0], opposite), "a" * 419)


class UsefulTest(unittest.TestCase):
    def test_random_machines(self):
        for given in random_machines(27, 6):
            texts = texts_up_to(given.letters, 5)
            led_to = {given.run(text) for text in texts}
            found = useful(given)
            self.assertEqual(found, [state for state in sorted(led_to) if self.leads_on(given, state, texts)])
            self.assertIs(type(found), list)

    def leads_on(self, given, state, texts):
        for text in texts:
            after = state
            for letter in text:
                after = given.table[after][given.letters.index(letter)]
            if given.accepting[after]:
                return True
        return False

    def test_states_of_no_use(self):
        # To 1 nothing leads, 2 leads on to nothing, 3 neither.
        given = Machine("ab", [False, True, False, False, True], [[4, 2], [0, 4], [2, 2], [3, 3], [2, 0]])
        self.assertEqual(useful(given), [0, 4])

    def test_no_text_and_all_texts(self):
        self.assertEqual(useful(NOTHING), [])
        self.assertEqual(useful(EVERYTHING), [0])
        self.assertEqual(useful(Machine("ab", [False, True], [[0, 0], [0, 0]])), [])
        self.assertEqual(useful(Machine("ab", [True, False], [[1, 1], [1, 1]])), [0])

    def test_a_list_that_is_changed_later(self):
        given = machine("ab", "ab*")
        useful(given).append(99)
        self.assertEqual(useful(given), [0, 1])

    def test_2000_states(self):
        ring = Machine("ab", [state == 7 for state in range(2000)],
                       [[(state + 1) % 2000, state] for state in range(2000)])
        self.assertEqual(useful(ring), list(range(2000)))


class FiniteTest(unittest.TestCase):
    def test_no_text(self):
        self.assertIs(is_finite(NOTHING), True)
        self.assertIs(is_finite(Machine("ab", [False, True], [[0, 0], [1, 1]])), True)

    def test_finitely_many(self):
        for notation in ("", "a", "a|bb|aba", "a{0,8}", "(a|b|ab){3}", ".{8}&!(.*a)", "[]*", "a*&b*"):
            self.assertIs(is_finite(machine("ab", notation)), True, notation)

    def test_infinitely_many(self):
        for notation in ("a*", ".*", "a*b", "ba*", "!(a)", "(ab)*", "b(ab|ba)*a", "a*&!(a{0,8})", "a|b*"):
            self.assertIs(is_finite(machine("ab", notation)), False, notation)

    def test_a_ring_that_is_useful_and_one_that_is_not(self):
        # States 2 and 3 are a ring.
        ring = [[1, 4], [2, 4], [3, 4], [2, 4], [4, 4], [2, 3]]
        for accepting, wanted in (((1,), True), ((0, 1), True), ((2,), False), ((3,), False), ((1, 3), False),
                                  ((5,), True), ((4,), False)):
            given = Machine("ab", [state in accepting for state in range(6)], ring)
            self.assertIs(is_finite(given), wanted, accepting)
        # No text leads to the ring.
        given = Machine("ab", [True, True, False], [[2, 2], [1, 1], [2, 2]])
        self.assertIs(is_finite(given), True)

    def test_a_state_that_leads_to_itself(self):
        self.assertIs(is_finite(EVERYTHING), False)
        self.assertIs(is_finite(Machine("ab", [False, True, False], [[1, 0], [2, 2], [2, 2]])), False)
        self.assertIs(is_finite(Machine("ab", [False, True, False], [[1, 2], [2, 2], [2, 2]])), True)

    def test_random_machines(self):
        for given in random_machines(28, 4):
            # There are infinitely many texts exactly if one has from 4 to 7 letters.
            longer = [text for text in texts_up_to(given.letters, 7) if len(text) > 3 and given.accepts(text)]
            self.assertIs(is_finite(given), longer == [])

    def test_2000_states(self):
        text = "ab" * 999
        given = path("ab", text)
        self.assertIs(is_finite(given), True)
        table = [list(row) for row in given.table]
        end = given.run(text)
        table[end][0] = 0
        self.assertIs(is_finite(Machine("ab", given.accepting, table)), False)


if __name__ == "__main__":
    unittest.main()
