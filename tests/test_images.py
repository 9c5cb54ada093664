"""Points 3.2 and 4.1: the texts that rewriters read and make."""

import unittest

from anytext.machines.build import machine_of
from anytext.machines.combine import both, either
from anytext.machines.least import least
from anytext.machines.machine import Machine
from anytext.patterns.reader import read_pattern
from anytext.rewriters.images import after_image, before_image, domain
from anytext.rewriters.rewriter import Rewriter
from helpers import accepted, is_least, random_machine, random_rewriter, random_text, seeded, texts_up_to

SAME = Rewriter("ab", "", [""], [[(0, "a"), (0, "b")]])
REFUSES = Rewriter("ab", "ab", [None], [[(0, "a"), None]])
ALPHABETS = ("a", "ba", "cab")


def machine(letters, notation):
    """The machine of a pattern."""
    return machine_of(letters, read_pattern(letters, notation))


def nothing(letters):
    """The machine of no text."""
    return Machine(letters, [False], [[0] * len(letters)])


def everything(letters):
    """The machine of all texts."""
    return Machine(letters, [True], [[0] * len(letters)])


def made_texts(rewriter, given, length):
    """The texts of up to this length that the rewriter makes of accepted texts.

    What was written goes beyond the length or is one of finitely many texts, so this ends.
    """
    found = set()
    seen = {(0, 0, rewriter.lead)}
    waiting = list(seen)
    while waiting:
        state, place, written = waiting.pop()
        if rewriter.finals[state] is not None and given.accepting[place]:
            found.add(written + rewriter.finals[state])
        for way, after in zip(rewriter.table[state], given.table[place]):
            if way is not None:
                spot = (way[0], after, written + way[1])
                if len(spot[2]) <= length and spot not in seen:
                    seen.add(spot)
                    waiting.append(spot)
    return [text for text in texts_up_to(given.letters, length) if text in found]


class ImagesTest(unittest.TestCase):
    def setUp(self):
        rng = seeded(51)
        self.pairs = []
        for letters in ALPHABETS:
            for _ in range(40 if letters != "cab" else 15):
                rewriter = random_rewriter(rng, letters, rng.randint(1, 4), rng.choice((0, 0.15, 0.4)),
                                           rng.choice((1, 2, 3)))
                self.pairs.append((rewriter, random_machine(rng, letters, rng.randint(1, 4))))

    def holds(self, found, told):
        self.assertEqual(accepted(found, 5), [text for text in texts_up_to(found.letters, 5) if told(text)])
        self.assertTrue(is_least(found))


class DomainTest(ImagesTest):
    def test_random_rewriters(self):
        for rewriter, _ in self.pairs:
            before = rewriter.picture()
            self.holds(domain(rewriter), lambda text: rewriter.rewrite(text) is not None)
            self.assertEqual(rewriter.picture(), before)

    def test_all_texts_and_no_text(self):
        self.assertEqual(domain(SAME).picture(), ("ab", (True,), ((0, 0),)))
        self.assertEqual(domain(REFUSES).picture(), ("ab", (False,), ((0, 0),)))

    def test_refusing_at_a_letter_and_at_the_end(self):
        rewriter = Rewriter("ab", "", [None, "a"], [[(1, "b"), None], [None, (0, "")]])
        self.assertEqual(domain(rewriter).picture(), machine("ab", "a(ba)*").picture())
        rewriter = Rewriter("ab", "", ["", None], [[(1, "b"), (0, "")], [(0, ""), (1, "")]])
        self.assertEqual(domain(rewriter).picture(), machine("ab", "(b|ab*a)*").picture())


class BeforeImageTest(ImagesTest):
    def test_random_rewriters(self):
        for rewriter, given in self.pairs:
            before = (rewriter.picture(), given.picture())

            def told(text):
                made = rewriter.rewrite(text)
                return made is not None and given.accepts(made)

            self.holds(before_image(rewriter, given), told)
            self.assertEqual((rewriter.picture(), given.picture()), before)

    def test_no_text_and_all_texts(self):
        for rewriter, _ in self.pairs:
            letters = rewriter.letters
            self.assertEqual(before_image(rewriter, nothing(letters)).picture(), nothing(letters).picture())
            self.assertEqual(before_image(rewriter, everything(letters)).picture(), domain(rewriter).picture())
        self.assertEqual(before_image(REFUSES, everything("ab")).picture(), nothing("ab").picture())

    def test_the_same_texts(self):
        rng = seeded(52)
        for _ in range(20):
            given = random_machine(rng, "ab", rng.randint(1, 5))
            self.assertEqual(before_image(SAME, given).picture(), least(given).picture())

    def test_lead_and_ends_count(self):
        rewriter = Rewriter("ab", "ab", ["", "ba"], [[(1, ""), (0, "b")], [(1, "a"), (0, "")]])
        self.assertEqual(before_image(rewriter, machine("ab", "ab")).picture(), machine("ab", "(ab)*").picture())
        self.assertEqual(before_image(rewriter, machine("ab", "abba")).picture(),
                         machine("ab", "(ab)*a|(ab)*b(ab)*aab(ab)*").picture())
        self.assertEqual(before_image(rewriter, machine("ab", "b.*")).picture(), nothing("ab").picture())


class AfterImageTest(ImagesTest):
    def holds_for(self, rewriter, given, length=5):
        before = (rewriter.picture(), given.picture())
        found = after_image(rewriter, given)
        self.assertEqual(accepted(found, length), made_texts(rewriter, given, length))
        self.assertTrue(is_least(found))
        self.assertEqual(found.picture(), after_image(rewriter, given).picture())
        self.assertEqual((rewriter.picture(), given.picture()), before)

    def test_random_rewriters(self):
        for rewriter, given in self.pairs:
            self.holds_for(rewriter, given)

    def test_each_accepted_text(self):
        for rewriter, given in self.pairs:
            found = after_image(rewriter, given)
            for text in texts_up_to(given.letters, 4):
                made = rewriter.rewrite(text)
                if made is not None and given.accepts(text):
                    self.assertTrue(found.accepts(made))

    def test_no_text_all_texts_and_one_text(self):
        rng = seeded(53)
        for rewriter, _ in self.pairs:
            letters = rewriter.letters
            self.assertEqual(after_image(rewriter, nothing(letters)).picture(), nothing(letters).picture())
            self.holds_for(rewriter, everything(letters), 4)
            text = random_text(rng, letters, 4)
            made = rewriter.rewrite(text)
            wanted = "[]" if made is None else made
            self.assertEqual(after_image(rewriter, machine(letters, text)).picture(), machine(letters, wanted).picture())
        self.assertEqual(after_image(REFUSES, everything("ab")).picture(), nothing("ab").picture())

    def test_the_same_texts(self):
        rng = seeded(54)
        for _ in range(20):
            given = random_machine(rng, "ab", rng.randint(1, 5))
            self.assertEqual(after_image(SAME, given).picture(), least(given).picture())

    def test_nothing_is_written_for_some_letters(self):
        rewriter = Rewriter("ab", "", [""], [[(0, ""), (0, "b")]])
        self.assertEqual(after_image(rewriter, machine("ab", "(aab)*")).picture(), machine("ab", "b*").picture())
        self.assertEqual(after_image(rewriter, machine("ab", "a*ba*ba*")).picture(), machine("ab", "bb").picture())
        nowhere = Rewriter("ab", "", [""], [[(0, ""), (0, "")]])
        self.assertEqual(after_image(nowhere, everything("ab")).picture(), machine("ab", "").picture())
        self.assertEqual(after_image(nowhere, machine("ab", "a+")).picture(), machine("ab", "").picture())

    def test_several_letters_are_written(self):
        rewriter = Rewriter("ab", "", [""], [[(0, "abb"), (0, "ab")]])
        self.assertEqual(after_image(rewriter, everything("ab")).picture(), machine("ab", "(abb|ab)*").picture())
        self.assertEqual(after_image(rewriter, machine("ab", "(ba)*")).picture(), machine("ab", "(ababb)*").picture())
        rewriter = Rewriter("ab", "", [""], [[(0, "ab" * 10), (0, "b" * 20)]])
        two = either(machine("ab", "ab" * 10 + "b" * 20), machine("ab", "b" * 20 + "ab" * 10))
        self.assertEqual(after_image(rewriter, machine("ab", "ab|ba")).picture(), two.picture())

    def test_leads_and_ends(self):
        rewriter = Rewriter("ab", "ab", ["ba", None, ""], [[(1, ""), (2, "a")], [(0, "b"), (1, "")], [None, (2, "b")]])
        self.assertEqual(after_image(rewriter, machine("ab", "(ab*a)*")).picture(), machine("ab", "abb*ba").picture())
        self.assertEqual(after_image(rewriter, machine("ab", "b*")).picture(), machine("ab", "ab(ba|ab*)").picture())
        self.assertEqual(after_image(rewriter, machine("ab", "a|ab*|bab")).picture(), nothing("ab").picture())

    def test_ways_that_lead_to_no_end_cost_nothing(self):
        # Behind "c" there is no end; the lots of all places where it may have been would be more than 2 ** 20.
        rows = [[(0, "a"), (0, "b"), (1, "a")]]
        rows += [[(state + 1, "a"), (state + 1, "b"), None] for state in range(1, 25)] + [[None, None, None]]
        rewriter = Rewriter("abc", "", [""] + [None] * 25, rows)
        self.assertEqual(after_image(rewriter, everything("abc")).picture(), machine("abc", "[ab]*").picture())

    def test_there_and_back(self):
        for rewriter, given in self.pairs:
            made = after_image(rewriter, everything(given.letters))
            back = after_image(rewriter, before_image(rewriter, given))
            self.assertEqual(back.picture(), both(made, given).picture())


if __name__ == "__main__":
    unittest.main()
