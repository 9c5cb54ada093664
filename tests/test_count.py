"""Point 1.2: how many texts are accepted, and their places in order."""

import unittest

from anytext.letters.alphabet import order_key, texts_of
from anytext.machines.build import machine_of
from anytext.machines.count import count, place_of, text_at
from anytext.machines.machine import Machine
from anytext.patterns.reader import read_pattern
from helpers import random_machine, random_text, renumbered, seeded, texts_up_to

NOTHING = Machine("ab", [False], [[0, 0]])
EVERYTHING = Machine("ab", [True], [[0, 0]])
ALPHABETS = ("a", "ba", "cab")


def machine(letters, notation):
    """The machine of a pattern."""
    return machine_of(letters, read_pattern(letters, notation))


def random_machines(number, most=5):
    """Machines over alphabets of one, two and three letters."""
    rng = seeded(number)
    return [random_machine(rng, letters, rng.randint(1, most)) for letters in ALPHABETS for _ in range(40)]


class CountTest(unittest.TestCase):
    def test_the_document(self):
        given = machine("ab", "!(.*aa.*)")
        self.assertEqual((count(given, 3), place_of(given, "bab"), text_at(given, 8)), (5, 8, "bab"))

    def test_one_by_one(self):
        for given in random_machines(30):
            before = given.picture()
            for length in range(6):
                wanted = len([text for text in texts_of(given.letters, length) if given.accepts(text)])
                self.assertEqual(count(given, length), wanted)
            self.assertEqual(given.picture(), before)

    def test_all_lengths(self):
        # Without "aa": as many as of one letter less with "b" behind, and of two letters less with "ba".
        given = machine("ab", "!(.*aa.*)")
        known = [1, 2]
        for length in range(301):
            self.assertEqual(count(given, length), known[length])
            known.append(known[-1] + known[-2])

    def test_all_lengths_of_a_ring(self):
        ring = machine("ab", "((a|b){7})*b")
        for length in range(301):
            self.assertEqual(count(ring, length), 2 ** (length - 1) if length % 7 == 1 else 0)

    def test_no_text_and_all_texts(self):
        self.assertEqual([count(NOTHING, length) for length in (0, 1, 300)], [0, 0, 0])
        self.assertEqual([count(EVERYTHING, length) for length in (0, 1, 2, 300)], [1, 2, 4, 2 ** 300])
        self.assertEqual(count(machine("abcdefgh", ".*"), 300), 8 ** 300)
        self.assertEqual(count(machine("a", ".*"), 300), 1)

    def test_finitely_many(self):
        given = machine("ab", "(a|b|ab){2}|.{8}")
        self.assertEqual([count(given, length) for length in (0, 1, 2, 3, 4, 5, 8, 9, 300)],
                         [0, 0, 4, 4, 1, 0, 256, 0, 0])


class PlaceTest(unittest.TestCase):
    def test_one_by_one(self):
        for given in random_machines(31):
            before = given.picture()
            place = 0
            for text in texts_up_to(given.letters, 4):
                self.assertEqual(place_of(given, text), place)
                place += given.accepts(text)
            self.assertEqual(given.picture(), before)

    def test_texts_that_are_not_accepted(self):
        given = machine("ba", "b*a|ab")
        self.assertEqual([place_of(given, text) for text in ("", "b", "a", "bb", "ba", "ab", "aa", "bbb")],
                         [0, 0, 0, 1, 1, 2, 3, 3])

    def test_longer_texts(self):
        rng = seeded(32)
        for letters in ("ba", "cab", "hgfedcba"):
            everything = Machine(letters, [True], [[0] * len(letters)])
            for length in (1, 20, 300):
                text = "".join(rng.choice(letters) for _ in range(length))
                many = len(letters)
                value = sum(many ** shorter for shorter in range(length))
                for index, digit in enumerate(order_key(letters, text)[1]):
                    value += digit * many ** (length - index - 1)
                self.assertEqual(place_of(everything, text), value)
                self.assertEqual(place_of(Machine(letters, [False], [[0] * many]), text), 0)

    def test_neighbours_of_300_letters(self):
        for given in random_machines(33):
            text = random_text(seeded(34), given.letters, 200).ljust(300, given.letters[-1])[:299] + given.letters[0]
            for letter in given.letters[1:]:
                following = text[:-1] + letter
                self.assertEqual(place_of(given, following), place_of(given, text) + given.accepts(text))
                text = following
            last = given.letters[-1] * 299
            self.assertEqual(place_of(given, given.letters[0] * 300), place_of(given, last) + given.accepts(last))

    def test_all_texts_of_a_length(self):
        for given in random_machines(35):
            whole = place_of(given, given.letters[0] * 300) - place_of(given, given.letters[0] * 299)
            self.assertEqual(whole, count(given, 299))

    def test_finitely_many(self):
        given = machine("ab", "(a|b){0,3}")
        self.assertEqual([place_of(given, text) for text in ("", "bbb", "aaaa", "b" * 300)], [0, 14, 15, 15])


class TextTest(unittest.TestCase):
    def test_all_places(self):
        for given in random_machines(36):
            before = given.picture()
            found = [text_at(given, place) for place in range(101)]
            texts = [text for text in texts_up_to(given.letters, 5) if given.accepts(text)][:101]
            self.assertEqual(found[:len(texts)], texts)
            for place, text in enumerate(found):
                if text is None:
                    self.assertEqual(found[place:], [None] * (101 - place))
                    break
                self.assertTrue(given.accepts(text))
                self.assertEqual(place_of(given, text), place)
            self.assertEqual(given.picture(), before)

    def test_no_text_and_all_texts(self):
        for given in (NOTHING, Machine("ab", [False, True], [[0, 0], [1, 1]])):
            self.assertEqual([text_at(given, place) for place in range(101)], [None] * 101)
        self.assertEqual([text_at(EVERYTHING, place) for place in range(101)], texts_up_to("ab", 6)[:101])
        everything = machine("hgfedcba", ".*")
        self.assertEqual([text_at(everything, place) for place in range(101)], texts_up_to("hgfedcba", 3)[:101])

    def test_behind_the_last_text(self):
        given = machine("ba", "(a|b|ab){2}")
        texts = ["bb", "ba", "ab", "aa", "bab", "abb", "aba", "aab", "abab"]
        self.assertEqual([text_at(given, place) for place in range(101)], texts + [None] * 92)
        self.assertEqual(text_at(machine("ab", ""), 0), "")
        self.assertIsNone(text_at(machine("ab", ""), 1))

    def test_the_last_text_of_a_length(self):
        self.assertEqual([text_at(machine("ab", ".{3}|b{6}"), place) for place in range(10)],
                         texts_up_to("ab", 3)[7:] + ["bbbbbb", None])

    def test_texts_far_apart(self):
        ring = Machine("ab", [state == 499 for state in range(500)],
                       [[(state + 1) % 500, (state + 1) % 500 if state == 5 else state] for state in range(500)])
        self.assertEqual(text_at(ring, 0), "a" * 499)
        self.assertEqual(text_at(ring, 1), "a" * 5 + "b" + "a" * 493)
        lonely = Machine("a", [state == 999 for state in range(1000)], [[(state + 1) % 1000] for state in range(1000)])
        self.assertEqual(text_at(lonely, 100), "a" * (100 * 1000 + 999))

    def test_states_numbered_otherwise(self):
        rng = seeded(37)
        for given in random_machines(38):
            other = renumbered(rng, given)
            for place in (0, 1, 7, 30, 100):
                self.assertEqual(text_at(other, place), text_at(given, place))


if __name__ == "__main__":
    unittest.main()
