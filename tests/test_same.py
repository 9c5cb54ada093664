"""Points 0.2, 4.2, 4.4 and 4.5: whether two rewriters do the same."""

import unittest

from anytext.letters.alphabet import order_key
from anytext.rewriters.chain import in_turn
from anytext.rewriters.form import least_form
from anytext.rewriters.makers import by_letters, replacing
from anytext.rewriters.rewriter import Rewriter
from anytext.rewriters.same import judge_same, same
from helpers import random_rewriter, random_text, seeded, texts_up_to, variants

REFUSES = Rewriter("ab", "", [None], [[None, None]])
LOST = Rewriter("ab", "b", [None, None], [[(1, "a"), (0, "b")], [(1, ""), None]])
KEEPS = Rewriter("ab", "", [""], [[(0, "a"), (0, "b")]])


def with_one_change(rng, rewriter):
    """A rewriter that differs in one thing: the lead, an end, a next state or a written text."""
    letters, lead, finals, table = rewriter.picture()
    finals, table = list(finals), [list(row) for row in table]
    state, index = rng.randrange(len(finals)), rng.randrange(len(letters))
    way = table[state][index]
    what = rng.choice(("lead", "end", "goal", "text", "nothing"))
    if what == "lead":
        lead = random_text(rng, letters, 2)
    elif what == "end":
        finals[state] = rng.choice((None, random_text(rng, letters, 2)))
    elif what == "nothing" or way is None:
        table[state][index] = None
    elif what == "goal":
        table[state][index] = (rng.randrange(len(finals)), way[1])
    else:
        table[state][index] = (way[0], random_text(rng, letters, 2))
    return Rewriter(letters, lead, finals, table)


def plain_difference(first, second, texts):
    """The first of these texts with which the two do not do the same, or None."""
    for text in texts:
        if first.rewrite(text) != second.rewrite(text):
            return text
    return None


class SameTest(unittest.TestCase):
    def are_same(self, first, second):
        """The two do the same, and the papers are taken, also the one for the two the other way round."""
        before = (first.picture(), second.picture())
        for one, other in ((first, second), (second, first)):
            word, paper = same(one, other)
            self.assertEqual(word, "same")
            self.has_form_of_paper(paper)
            self.assertIs(judge_same(one, other, paper), True)
            self.assertEqual(same(one, other), (word, paper))
        self.assertEqual((first.picture(), second.picture()), before)

    def differ(self, first, second, text):
        """The two do not do the same with this text first, also the other way round."""
        self.assertEqual(same(first, second), ("differ", text))
        self.assertEqual(same(second, first), ("differ", text))

    def has_form_of_paper(self, paper):
        self.assertIs(type(paper), tuple)
        self.assertEqual(len(paper), 3)
        self.assertEqual([type(part) for part in paper], [tuple] * 3)
        for state in paper[0] + paper[1]:
            self.assertIs(type(state), int)
        for row in paper[2]:
            self.assertEqual([type(row)] + [type(part) for part in row], [tuple, int, int, str, str])

    def test_variants(self):
        rng = seeded(80)
        for letters, times in (("a", 25), ("ba", 30), ("cab", 15)):
            for _ in range(times):
                rewriter = random_rewriter(rng, letters, rng.randint(1, 4), rng.choice((0, 0.2, 0.4)))
                self.are_same(rewriter, rewriter)
                self.are_same(rewriter, least_form(rewriter))
                found = variants(rng, rewriter)
                for variant in found:
                    self.are_same(rewriter, variant)
                self.are_same(found[1], found[4])

    def test_one_thing_changed(self):
        rng = seeded(81)
        told = {"same": 0, "differ": 0}
        for letters, times in (("a", 100), ("ba", 150), ("acb", 40)):
            texts = texts_up_to(letters, 8 if len(letters) < 3 else 6)
            for _ in range(times):
                first = random_rewriter(rng, letters, rng.randint(1, 4), rng.choice((0, 0.2, 0.4)))
                second = rng.choice(variants(rng, with_one_change(rng, first)))
                wanted = plain_difference(first, second, texts)
                word, answer = same(first, second)
                told[word] += 1
                if word == "same":
                    self.assertIsNone(wanted)
                    self.are_same(first, second)
                elif len(answer) <= len(texts[-1]):
                    self.assertEqual(answer, wanted)
                    self.differ(first, second, wanted)
                else:
                    self.assertIsNone(wanted)
                    self.assertNotEqual(first.rewrite(answer), second.rewrite(answer))
        self.assertGreater(min(told.values()), 60)

    def test_any_two(self):
        rng = seeded(82)
        for letters in ("a", "ab", "ba", "cab"):
            texts = texts_up_to(letters, 8 if len(letters) < 3 else 6)
            for _ in range(60):
                first = random_rewriter(rng, letters, rng.randint(1, 3), 0.2, 1)
                second = random_rewriter(rng, letters, rng.randint(1, 3), 0.2, 1)
                wanted = plain_difference(first, second, texts)
                if wanted is None:
                    self.assertIs(same(first, second)[0] == "same" or len(same(first, second)[1]) > 6, True)
                else:
                    self.differ(first, second, wanted)

    def test_as_least_forms_tell(self):
        rng = seeded(83)
        for _ in range(150):
            first = random_rewriter(rng, "ab", rng.randint(1, 2), 0.4, 1)
            second = random_rewriter(rng, "ab", rng.randint(1, 2), 0.4, 1)
            self.assertEqual(same(first, second)[0] == "same",
                             least_form(first).picture() == least_form(second).picture())

    def test_the_least_text_goes_by_the_alphabet(self):
        for letters in ("ab", "ba"):
            swap = by_letters(letters, {"a": "b", "b": "a"})
            self.differ(by_letters(letters, {}), swap, letters[0])
            self.differ(replacing(letters, "ab", ""), replacing(letters, "ba", ""), letters)
        self.differ(replacing("ab", "ab", ""), replacing("ab", "ba", ""), "ab")
        self.differ(replacing("ba", "ab", ""), replacing("ba", "ba", ""), "ba")

    def test_a_later_difference(self):
        # At the same pair of states, the first thing that is owed hides no difference, but the second one shows it.
        first = Rewriter("ab", "", [None, "", ""], [[(1, "a"), (1, "ab")], [(2, "b"), None], [None, None]])
        second = Rewriter("ab", "", [None, "", ""], [[(1, "a"), (1, "aa")], [(2, "b"), None], [None, None]])
        self.differ(first, second, "b")
        third = Rewriter("ab", "", [None, None, ""], [[(1, "ab"), (1, "b")], [(2, ""), (2, "b")], [None, None]])
        fourth = Rewriter("ab", "", [None, None, ""], [[(1, "a"), (1, "b")], [(2, "b"), (2, "bb")], [None, None]])
        self.differ(third, fourth, "ba")

    def test_a_long_way(self):
        ring = Rewriter("a", "", [""] * 6 + ["a"], [[((state + 1) % 7, "")] for state in range(7)])
        other = Rewriter("a", "", [""] * 4 + ["a"], [[((state + 1) % 5, "")] for state in range(5)])
        self.differ(ring, other, "a" * 4)
        ring = Rewriter("a", "", [None] * 6 + ["a"], [[((state + 1) % 7, "a")] for state in range(7)])
        other = Rewriter("a", "", [None] * 6 + ["a"] + [None] * 6 + ["aa"], [[((state + 1) % 14, "a")] for state in range(14)])
        self.differ(ring, other, "a" * 13)

    def test_what_is_owed_grows(self):
        first = Rewriter("ab", "", [None, ""], [[(0, "aa"), (1, "")], [None, None]])
        second = Rewriter("ab", "", [None, ""], [[(0, "a"), (1, "a")], [None, None]])
        self.differ(first, second, "b")
        rows = [[(state + 1, "aa"), None] for state in range(29)] + [[None, (30, "")], [None, None]]
        late = [[(state + 1, ""), None] for state in range(29)] + [[None, (30, "a" * 58)], [None, None]]
        ends = [None] * 30 + [""]
        self.are_same(Rewriter("ab", "", ends, rows), Rewriter("ab", "", ends, late))
        late[29][1] = (30, "a" * 57)
        self.differ(Rewriter("ab", "", ends, rows), Rewriter("ab", "", ends, late), "a" * 29 + "b")

    def test_one_alone_refuses(self):
        self.differ(KEEPS, Rewriter("ab", "", [""], [[(0, "a"), None]]), "b")
        self.differ(KEEPS, Rewriter("ab", "", [None], [[(0, "a"), (0, "b")]]), "")
        self.differ(KEEPS, Rewriter("ab", "", ["", None], [[(1, "a"), (0, "b")], [(1, "a"), (0, "b")]]), "a")
        # The letter leads on, but to no live state.
        self.differ(KEEPS, Rewriter("ab", "", ["", None], [[(0, "a"), (1, "b")], [(1, ""), (1, "")]]), "b")

    def test_nothing_and_the_empty_text_are_two_things(self):
        self.differ(Rewriter("ab", "", [""], [[None, None]]), REFUSES, "")

    def test_rewriters_that_refuse_every_text(self):
        self.are_same(REFUSES, REFUSES)
        self.are_same(REFUSES, LOST)
        self.are_same(LOST, in_turn(KEEPS, LOST))
        self.differ(REFUSES, KEEPS, "")
        self.differ(LOST, Rewriter("ab", "", [None, ""], [[None, (1, "")], [None, None]]), "b")

    def test_leads_and_ends(self):
        first = Rewriter("ab", "a", [""], [[(0, "ba"), None]])
        second = Rewriter("ab", "", ["a"], [[(0, "ab"), None]])
        self.are_same(first, second)
        self.differ(first, Rewriter("ab", "", ["b"], [[(0, "ab"), None]]), "")
        self.differ(first, Rewriter("ab", "", ["a"], [[(0, "aa"), None]]), "a")

    def test_the_order_of_least_texts(self):
        rng = seeded(84)
        for _ in range(40):
            first, second = random_rewriter(rng, "cba", 3, 0.1), random_rewriter(rng, "cba", 3, 0.1)
            word, text = same(first, second)
            if word == "differ":
                earlier = [other for other in texts_up_to("cba", min(len(text), 5))
                           if order_key("cba", other) < order_key("cba", text)]
                self.assertIsNone(plain_difference(first, second, earlier))

    def test_the_example(self):
        self.assertEqual(same(by_letters("ab", {"a": "b"}), replacing("ab", "aa", "bb")), ("differ", "a"))


if __name__ == "__main__":
    unittest.main()
