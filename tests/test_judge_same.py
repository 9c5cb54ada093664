"""Points 4.4 and 4.5: which papers for two rewriters are taken."""

import unittest

from anytext.rewriters.rewriter import Rewriter
from anytext.rewriters.same import judge_same, same
from helpers import random_rewriter, random_text, seeded, texts_up_to, variants

# Both write "ab" for each "a"; the second one writes each "b" a letter later. State 2 of both refuses every text.
FIRST = Rewriter("ab", "a", ["b", None, None], [[(0, "ba"), (2, "")], [None, (0, "")], [(2, "b"), None]])
SECOND = Rewriter("ab", "", ["ab", None, None], [[(0, "ab"), None], [(0, ""), (2, "")], [None, (2, "")]])
ROWS = ((0, 0, "a", ""),)
PAPER = ((2,), (2,), ROWS)

REFUSES = Rewriter("ab", "b", [None, ""], [[(0, ""), None], [(1, "a"), (0, "b")]])
REFUSES_TOO = Rewriter("ab", "", [None, None], [[(1, ""), (1, "b")], [(0, ""), None]])


class JudgeSameTest(unittest.TestCase):
    def taken(self, paper, first=FIRST, second=SECOND):
        self.assertIs(judge_same(first, second, paper), True)

    def refused(self, paper, first=FIRST, second=SECOND):
        self.assertIs(judge_same(first, second, paper), False)

    def test_a_paper_that_keeps_all_rules(self):
        self.taken(PAPER)
        self.taken(((), (), ((0, 0, "", ""),)), Rewriter("ab", "", [""], [[None, (0, "a")]]),
                   Rewriter("ab", "", [""], [[None, (0, "a")]]))

    def test_rows_in_another_order_and_twice(self):
        first = Rewriter("ab", "", ["a", "", None], [[(1, "a"), None], [(2, ""), (0, "b")], [None, (1, "b")]])
        second = Rewriter("ab", "", ["a", None, ""], [[(2, "a"), None], [None, (2, "b")], [(1, ""), (0, "b")]])
        rows = ((0, 0, "", ""), (1, 2, "", ""), (2, 1, "", ""))
        self.taken(((), (), rows), first, second)
        self.taken(((), (), rows[::-1]), first, second)
        self.taken(((), (), (rows[1], rows[2], rows[0], rows[1], rows[1])), first, second)

    def test_rows_left_out(self):
        first = Rewriter("ab", "", ["a", "", None], [[(1, "a"), None], [(2, ""), (0, "b")], [None, (1, "b")]])
        rows = ((0, 0, "", ""), (1, 1, "", ""), (2, 2, "", ""))
        self.taken(((), (), rows), first, first)
        for place in range(3):
            self.refused(((), (), rows[:place] + rows[place + 1:]), first, first)
        self.refused(((2,), (2,), ()))

    def test_the_first_row(self):
        self.refused(((2,), (2,), ((0, 0, "", ""),)))
        self.refused(((2,), (2,), ((0, 0, "", "a"),)))
        # What is owed has no common beginning: this row cannot stand for the first one.
        self.refused(((2,), (2,), ((0, 0, "aa", "a"),)))
        first = Rewriter("ab", "abb", ["b"], [[None, None]])
        second = Rewriter("ab", "aba", [""], [[None, None]])
        self.refused(((), (), ((0, 0, "abb", "aba"),)), first, second)
        first = Rewriter("ab", "ab", ["b"], [[None, None]])
        second = Rewriter("ab", "abb", [""], [[None, None]])
        self.taken(((), (), ((0, 0, "", "b"),)), first, second)
        self.refused(((), (), ((0, 0, "ab", "abb"),)), first, second)
        self.refused(((), (), ((0, 0, "b", ""),)), first, second)

    def test_rows_put_in(self):
        self.taken(((2,), (2,), ROWS + ((2, 2, "", ""),)))
        self.taken(((2,), (2,), ((2, 2, "b?", "not a text"),) + ROWS + ((2, 2, "", ""), (2, 2, "ab", "ab"))))
        # Here one of the two stops at a letter, and the other one does not.
        self.refused(((2,), (2,), ROWS + ((1, 1, "", ""),)))
        self.refused(((2,), (2,), ROWS + ((0, 0, "", ""),)))
        self.refused(((2,), (2,), ROWS + ((0, 2, "a", ""),)))
        self.refused(((2,), (2,), ROWS + ((2, 0, "a", ""),)))
        self.refused(((2,), (2,), ROWS + ((0, 1, "a", ""),)))

    def test_rows_with_any_strings(self):
        only_end = Rewriter("ab", "", ["a", "ba"], [[None, None], [None, None]])
        other_end = Rewriter("ab", "", ["a", ""], [[None, None], [None, None]])
        row = (0, 0, "", "")
        for more in ((1, 1, "", "ba"), (1, 1, "&?", "&?ba"), (1, 0, "x", "xb"), (0, 0, "same", "same"), (0, 1, "", "a"),
                     (0, 0, "ab ", "ab ")):
            self.taken(((), (), (row, more)), only_end, other_end)
        for more in ((1, 1, "", ""), (1, 1, "&", "?ba"), (1, 0, "x", "x"), (0, 0, "same", "some"), (0, 1, "a", ""),
                     (0, 0, "ab ", "ab")):
            self.refused(((), (), (row, more)), only_end, other_end)

    def test_a_row_that_was_put_in_needs_its_next_rows(self):
        loop = Rewriter("ab", "", [""], [[(0, "a"), None]])
        self.taken(((), (), ((0, 0, "", ""),)), loop, loop)
        # "?" with "a" behind it, on both sides, is owed as nothing: that row is there.
        self.taken(((), (), ((0, 0, "", ""), (0, 0, "?", "?"))), loop, loop)
        other = Rewriter("ab", "", ["", None], [[(0, "a"), None], [(1, "a"), None]])
        third = Rewriter("ab", "", ["", None], [[(0, "a"), None], [(1, "a"), None]])
        # These refuse every text from state 1 on, but that is not told.
        self.taken(((), (), ((0, 0, "", ""), (1, 1, "", ""))), other, third)
        self.refused(((), (), ((0, 0, "", ""), (1, 1, "?", ""))), other, third)
        rows = ((0, 0, "", ""), (1, 1, "?", ""), (1, 1, "?a", "a"))
        self.refused(((), (), rows), other, third)
        silent = Rewriter("ab", "", ["", None], [[(0, "a"), None], [(1, ""), None]])
        self.taken(((), (), ((0, 0, "", ""), (1, 1, "?", ""))), silent, silent)
        self.refused(((), (), ((0, 0, "", ""), (1, 1, "?a", "?"))), silent, silent)
        self.taken(((), (), ((0, 0, "", ""), (1, 1, "?a", "?"), (1, 1, "a", ""))), silent, silent)

    def test_rows_with_states_that_are_none(self):
        for row in ((-1, 0, "a", ""), (0, -1, "a", ""), (-3, -3, "a", ""), (3, 2, "", ""), (2, 3, "", ""), (3, 3, "", ""),
                    (-1, -1, "", ""), (999999999, 0, "", "")):
            self.refused(((2,), (2,), ROWS + (row,)))
            self.refused(((2,), (2,), (row,) + ROWS))

    def test_gone(self):
        self.refused(((), (2,), ROWS))
        self.refused(((0, 2), (2,), ROWS))
        # State 1 leads on to state 0.
        self.refused(((1, 2), (2,), ROWS))
        self.taken(((2, 2), (2, 2, 2), ROWS))
        first = Rewriter("ab", "", ["", None, None], [[None, (0, "b")], [(2, ""), None], [None, (2, "a")]])
        row = ((0, 0, "", ""),)
        for gone in ((), (2,), (1, 2), (2, 1, 2)):
            for others in ((), (2,), (2, 1)):
                self.taken((gone, others, row), first, first)
        # State 1 leads to state 2, which is not told.
        self.refused(((1,), (), row), first, first)
        self.refused(((), (1,), row), first, first)
        # A state with a text for the end.
        second = Rewriter("ab", "", ["", None, ""], [[None, (0, "b")], [None, None], [None, None]])
        self.taken(((1,), (1,), row), second, second)
        self.refused(((2,), (), row), second, second)
        self.refused(((), (2,), row), second, second)
        self.refused(((1, 2), (), row), second, second)

    def test_gone_states_that_are_none(self):
        for state in (-1, -2, -3, 3, 4, 999999999):
            self.refused(((2, state), (2,), ROWS))
            self.refused(((2,), (state, 2), ROWS))
            self.refused(((state,), (state,), ROWS))

    def test_what_leads_to_gone_states_stops(self):
        # "b" leads to a gone state in the first one, and has nothing in the second one.
        self.taken(PAPER)
        self.refused(((), (), ROWS))
        # It leads to one in both, with texts that are not the same.
        first = Rewriter("ab", "", ["", None], [[None, (1, "a")], [None, None]])
        second = Rewriter("ab", "", ["", None], [[None, (1, "b")], [None, (1, "")]])
        self.taken(((1,), (1,), ((0, 0, "", ""),)), first, second)
        self.refused(((1,), (), ((0, 0, "", ""),)), first, second)
        self.refused(((), (1,), ((0, 0, "", ""),)), first, second)
        self.refused(((), (), ((0, 0, "", ""),)), first, second)

    def test_state_0_that_is_gone(self):
        row = (0, 0, "b", "")
        for rows in ((), (row,), ((7, -7, "x", "?"),), ((1, 1, "", ""), (1, 1, "", ""))):
            self.taken(((0,), (0, 1), rows), REFUSES, REFUSES_TOO)
            self.refused(((0,), (), rows), REFUSES, REFUSES_TOO)
            self.refused(((), (0, 1), rows), REFUSES, REFUSES_TOO)
            self.refused(((0, 1), (0, 1), rows), REFUSES, REFUSES_TOO)
            self.refused(((0,), (0,), rows), REFUSES, REFUSES_TOO)
            self.refused(((0,), (0, 1, 2), rows), REFUSES, REFUSES_TOO)
        self.refused(((0,), (1,), (row,)), REFUSES, REFUSES_TOO)
        # All letters of state 0 stop in both, but it is gone in one alone.
        ending = Rewriter("ab", "", [None, None], [[(1, ""), None], [None, None]])
        self.taken(((1,), (), ((0, 0, "", ""),)), ending, Rewriter("ab", "", [None], [[None, None]]))
        self.refused(((0, 1), (1,), ((0, 0, "", ""),)), ending, ending)
        self.refused(((1,), (0, 1), ((0, 0, "", ""),)), ending, ending)
        self.taken(((1,), (1,), ((0, 0, "", ""),)), ending, ending)
        self.taken(((0, 1), (1, 0), ((0, 0, "", ""),)), ending, ending)
        # Two that refuse every text, without telling that they do.
        self.refused(((), (), (row,)), REFUSES, REFUSES_TOO)
        self.refused(((0,), (0,), ROWS))
        self.refused(((0, 2), (0, 2), ROWS))

    def test_ends(self):
        row = ((0, 0, "", ""),)
        made = [Rewriter("ab", "", [final], [[None, None]]) for final in (None, "", "a", "ab")]
        for first in made:
            for second in made:
                self.assertIs(judge_same(first, second, ((), (), row)), first.finals == second.finals)

    def test_letters(self):
        row = ((0, 0, "", ""),)
        ways = [None, (0, ""), (0, "a"), (0, "b"), (0, "ab")]
        made = [Rewriter("ab", "", [""], [[None, way]]) for way in ways]
        for first in made:
            for second in made:
                self.assertIs(judge_same(first, second, ((), (), row)), first.table == second.table)

    def test_no_paper_for_two_that_differ(self):
        first = Rewriter("ab", "", [""], [[(0, "ab"), None]])
        second = Rewriter("ab", "", [""], [[(0, "aa"), None]])
        rows = ((0, 0, "", ""), (0, 0, "b", "a"))
        for some in ((), rows[:1], rows[1:], rows):
            for gone in ((), (0,)):
                self.refused((gone, gone, some), first, second)

    def test_changed_papers(self):
        rng = seeded(90)
        for _ in range(150):
            first = random_rewriter(rng, "ab", rng.randint(1, 3), 0.4, 1)
            second = rng.choice(variants(rng, first))
            third = random_rewriter(rng, "ab", rng.randint(1, 3), 0.4, 1)
            gone, others, rows = same(first, second)[1]
            self.taken((gone, others, rows[::-1] + rows), first, second)
            differ = [text for text in texts_up_to("ab", 6) if second.rewrite(text) != third.rewrite(text)]
            for _ in range(5):
                some = tuple(row for row in rows if rng.random() < 0.9)
                more = ((rng.randint(-1, 3), rng.randint(-1, 3), random_text(rng, "ab", 1), random_text(rng, "ab", 1)),)
                lost = tuple(rng.sample(range(3), rng.randint(0, 2)))
                for paper in ((gone, others, some + more), (gone + lost, others, rows), (lost, gone, rows), (gone, lost, some)):
                    if differ:
                        self.refused(paper, second, third)
                    self.assertIn(judge_same(first, second, paper), (True, False))

    def test_what_is_passed_stays_as_it_was(self):
        before = (FIRST.picture(), SECOND.picture())
        self.taken(PAPER)
        self.assertEqual((FIRST.picture(), SECOND.picture(), PAPER), before + (((2,), (2,), ROWS),))


if __name__ == "__main__":
    unittest.main()
