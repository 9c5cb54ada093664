"""Point 3.4: the suite of a machine."""

import unittest

from anytext.letters.alphabet import order_key
from anytext.machines.build import machine_of
from anytext.machines.combine import since
from anytext.machines.least import least
from anytext.machines.machine import Machine
from anytext.machines.search import parting
from anytext.machines.suite import suite
from anytext.patterns.reader import read_pattern
from helpers import doubled, least_texts, random_machine, renumbered, seeded, texts_up_to


def machine(letters, notation):
    """The machine of a pattern."""
    return machine_of(letters, read_pattern(letters, notation))


def plain_suite(given, extra):
    """Point 3.4, word by word."""
    small = least(given)
    behind = [since(small, state) for state in range(len(small.accepting))]
    tails = {parting(one, other) for one in behind for other in behind} - {None}
    texts = {head + middle + tail for head in least_texts(small).values()
             for middle in texts_up_to(given.letters, extra + 1) for tail in tails or {""}}
    return sorted(texts, key=lambda text: order_key(given.letters, text))


def all_machines(letters, states):
    """All machines with so many states."""
    cells = states * len(letters)
    for number in range(2 ** states * states ** cells):
        accepting = [number >> state & 1 == 1 for state in range(states)]
        places = [number // 2 ** states // states ** cell % states for cell in range(cells)]
        yield Machine(letters, accepting, [places[state * len(letters):(state + 1) * len(letters)]
                                           for state in range(states)])


class SuiteTest(unittest.TestCase):
    def test_the_document(self):
        self.assertEqual(suite(Machine("a", [True, False], [[1], [0]]), 0), ["", "a", "aa"])

    def test_one_state(self):
        for accepting in (False, True):
            for extra in range(4):
                self.assertEqual(suite(Machine("ba", [accepting], [[0, 0]]), extra), texts_up_to("ba", extra + 1))
                self.assertEqual(suite(Machine("a", [accepting] * 3, [[2], [0], [1]]), extra),
                                 texts_up_to("a", extra + 1))

    def test_by_hand(self):
        # The least texts are "", "a" and "aa", the states 0 and 1 are parted by "a", the others by "".
        self.assertEqual(suite(machine("ab", "!(.*aa.*)"), 0),
                         ["", "a", "b", "aa", "ab", "ba", "aaa", "aab", "aba", "aaaa", "aaba"])
        # The states of "", "b" and "a" over "ba": "a" alone is accepted.
        self.assertEqual(suite(machine("ba", "a"), 0),
                         ["", "b", "a", "bb", "ba", "ab", "aa", "bba", "baa", "aba", "aaa"])

    def test_word_by_word(self):
        rng = seeded(44)
        for letters in ("a", "ba", "cab"):
            for extra in range(4):
                for _ in range(12 if letters != "cab" else 3):
                    given = random_machine(rng, letters, rng.randint(1, 6))
                    before = given.picture()
                    found = suite(given, extra)
                    self.assertEqual(found, plain_suite(given, extra))
                    self.assertIs(type(found), list)
                    self.assertEqual(given.picture(), before)

    def test_eight_letters(self):
        given = machine("hgfedcba", "[ah]*a")
        for extra in (0, 1, 2):
            self.assertEqual(suite(given, extra), plain_suite(given, extra))
        self.assertEqual(len(suite(given, 3)), len(plain_suite(given, 3)))

    def test_states_numbered_otherwise_and_twice(self):
        rng = seeded(45)
        for letters in ("a", "ba"):
            for _ in range(20):
                given = random_machine(rng, letters, rng.randint(1, 5))
                for extra in (0, 1, 2):
                    found = suite(given, extra)
                    self.assertEqual(suite(renumbered(rng, given), extra), found)
                    self.assertEqual(suite(doubled(given), extra), found)
                    self.assertEqual(suite(least(given), extra), found)

    def test_a_list_that_is_changed_later(self):
        given = machine("ab", "ab")
        suite(given, 0).clear()
        self.assertEqual(suite(given, 0), plain_suite(given, 0))

    def test_a_hundred_states(self):
        ring = Machine("a", [state == 0 for state in range(100)], [[(state + 1) % 100] for state in range(100)])
        self.assertEqual(suite(ring, 3), ["a" * length for length in range(99 + 4 + 99)])


class EnoughTest(unittest.TestCase):
    """A machine with at most `extra` states more that tells the same of the suite tells the same of all texts."""

    def enough(self, given, others, extra):
        texts = suite(given, extra)
        told = [given.accepts(text) for text in texts]
        agree = 0
        for other in others:
            if [other.accepts(text) for text in texts] == told:
                agree += 1
                self.assertIsNone(parting(given, other))
        return agree

    def test_all_machines_of_three_states_over_one_letter(self):
        others = [list(all_machines("a", states)) for states in range(1, 5)]
        for given in others[0] + others[1] + others[2]:
            states = len(least(given).accepting)
            for extra in range(5 - states):
                self.assertGreater(self.enough(given, others[states + extra - 1], extra), 0)

    def test_all_machines_of_two_states_over_two_letters(self):
        twos = list(all_machines("ba", 2))
        for given in twos:
            extra = 2 - len(least(given).accepting)
            self.assertGreater(self.enough(given, twos, extra), 0)

    def test_machines_that_differ_in_one_place(self):
        rng = seeded(46)
        for letters in ("a", "ba", "cab"):
            for _ in range(15):
                given = least(random_machine(rng, letters, rng.randint(2, 4)))
                for extra in (0, 1, 2):
                    others = [self.changed(rng, given, extra) for _ in range(30)]
                    self.enough(given, others, extra)

    def changed(self, rng, given, extra):
        """The machine with `extra` copies of its states, and with one or two changes."""
        accepting = list(given.accepting)
        table = [list(row) for row in given.table]
        for _ in range(extra):
            source = rng.randrange(len(table))
            accepting.append(accepting[source])
            table.append(list(table[source]))
        for _ in range(rng.randint(1, 2)):
            table[rng.randrange(len(table))][rng.randrange(len(given.letters))] = rng.randrange(len(table))
        if rng.random() < 0.3:
            state = rng.randrange(len(table))
            accepting[state] = not accepting[state]
        return Machine(given.letters, accepting, table)


if __name__ == "__main__":
    unittest.main()
