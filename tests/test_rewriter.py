"""Points 0.5 and 4.1: rewriters."""

import unittest

from anytext.errors import BadMachine, BadRewriter, LetterError, MachineError, ProgramError
from anytext.rewriters.rewriter import Rewriter
from helpers import plainly_rewritten, random_rewriter, reason, seeded, texts_up_to

# Writes each pair of letters turned round, behind "b"; refuses "aa" at even places, and texts that end behind "b".
PAIRS = Rewriter("ab", "b", ["", "a", None],
                 [[(1, ""), (2, "")], [None, (0, "ba")], [(0, "ab"), (0, "bb")]])


class RewriterTest(unittest.TestCase):
    def test_attributes(self):
        self.assertEqual(PAIRS.letters, "ab")
        self.assertEqual(PAIRS.lead, "b")
        self.assertEqual(PAIRS.finals, ("", "a", None))
        self.assertEqual(PAIRS.table, (((1, ""), (2, "")), (None, (0, "ba")), ((0, "ab"), (0, "bb"))))
        self.assertEqual(PAIRS.picture(), ("ab", "b", PAIRS.finals, PAIRS.table))

    def test_parts_are_kept_as_tuples(self):
        ways = (((1, "a"), None), (None, (0, "")))
        for finals, table in (([None, "b"], [[(1, "a"), None], [None, (0, "")]]), ((None, "b"), ways),
                              ((None, "b"), [((1, "a"), None), [None, (0, "")]]), ([None, "b"], (list(ways[0]), ways[1])),
                              ([None, "b"], [[[1, "a"], None], (None, [0, ""])])):
            found = Rewriter("ab", "ab", finals, table)
            self.assertEqual(found.picture(), ("ab", "ab", (None, "b"), ways))
            self.assertIs(type(found.finals), tuple)
            self.assertIs(type(found.table), tuple)
            self.assertEqual({type(row) for row in found.table}, {tuple})
            self.assertEqual({type(way) for row in found.table for way in row}, {tuple, type(None)})

    def test_rewrite(self):
        self.assertEqual([PAIRS.rewrite(text) for text in ("", "a", "ab", "ba", "bb", "aba", "abba", "bbab")],
                         ["b", "ba", "bba", "bab", "bbb", "bbaa", "bbaab", "bbbba"])

    def test_refusing_at_a_letter(self):
        self.assertEqual([PAIRS.rewrite(text) for text in ("aa", "aaa", "abaa", "aab", "bbaaab")], [None] * 5)

    def test_refusing_at_the_end(self):
        self.assertEqual([PAIRS.rewrite(text) for text in ("b", "abb", "bab")], [None] * 3)
        self.assertIsNone(Rewriter("ab", "ab", [None], [[(0, "a"), (0, "b")]]).rewrite(""))
        self.assertIsNone(Rewriter("ab", "ab", [None], [[(0, "a"), (0, "b")]]).rewrite("ab"))

    def test_nothing_and_the_empty_text_are_two_things(self):
        found = Rewriter("a", "", [""], [[(0, "")]])
        self.assertEqual([found.rewrite(text) for text in ("", "a", "aaa")], ["", "", ""])
        found = Rewriter("a", "", [""], [[None]])
        self.assertEqual([found.rewrite(text) for text in ("", "a", "aaa")], ["", None, None])

    def test_lead_letters_and_end_in_order(self):
        found = Rewriter("ba", "bb", ["a", "ab"], [[(1, "ba"), (0, "a")], [(0, "b"), (1, "")]])
        self.assertEqual([found.rewrite(text) for text in ("", "b", "a", "bb", "ba", "ab", "abab")],
                         ["bba", "bb" + "ba" + "ab", "bb" + "a" + "a", "bb" + "ba" + "b" + "a", "bb" + "ba" + "" + "ab",
                          "bb" + "a" + "ba" + "ab", "bb" + "a" + "ba" + "" + "b" + "a"])

    def test_letters_go_by_their_places_in_the_alphabet(self):
        row = [[(0, "b"), (0, "")]]
        self.assertEqual(Rewriter("ab", "", [""], row).rewrite("abba"), "bb")
        self.assertEqual(Rewriter("ba", "", [""], row).rewrite("abbab"), "bbb")

    def test_random_rewriters(self):
        rng = seeded(50)
        for letters in ("a", "ba", "cab"):
            for _ in range(50):
                found = random_rewriter(rng, letters, rng.randint(1, 4))
                for text in texts_up_to(letters, 4):
                    self.assertEqual(found.rewrite(text), plainly_rewritten(found, text))

    def test_900_letters(self):
        self.assertEqual(PAIRS.rewrite("abba" * 225), "b" + "baab" * 225)
        self.assertEqual(Rewriter("ab", "a", ["b"], [[(0, "ab" * 10), (0, "")]]).rewrite("ab" * 450),
                         "a" + "ab" * 4500 + "b")
        self.assertIsNone(PAIRS.rewrite("abba" * 225 + "b"))

    def test_many_states_and_eight_letters(self):
        ring = Rewriter("hgfedcba", "", [None] * 199 + ["a"], [[((state + 1) % 200, "h")] * 8 for state in range(200)])
        self.assertEqual(ring.rewrite("abcdefgh" * 24 + "abcdefg"), "h" * 199 + "a")
        self.assertIsNone(ring.rewrite("a"))

    def test_what_is_changed_later_has_no_effect(self):
        finals = ["", None]
        table = [[[1, "a"], None], [None, (0, "b")]]
        found = Rewriter("ab", "", finals, table)
        before = found.picture()
        finals[1] = "a"
        finals.append("a")
        table[0][0][1] = "b"
        table[0][1] = (0, "")
        table[1] = [None, None]
        table.append([None, None])
        self.assertEqual(found.picture(), before)
        self.assertEqual(before, ("ab", "", ("", None), (((1, "a"), None), (None, (0, "b")))))
        self.assertEqual([found.rewrite(text) for text in ("a", "b", "ab")], [None, None, "ab"])

    def test_what_is_passed_stays_as_it_was(self):
        finals = ["", None]
        table = [[[1, "a"], None], (None, (0, "b"))]
        Rewriter("ab", "", finals, table).rewrite("ab")
        self.assertEqual((finals, table), (["", None], [[[1, "a"], None], (None, (0, "b"))]))

    def test_rewriting_changes_nothing(self):
        before = PAIRS.picture()
        self.assertEqual(PAIRS.rewrite("abba"), PAIRS.rewrite("abba"))
        self.assertEqual(PAIRS.picture(), before)


class FaultsTest(unittest.TestCase):
    def fault(self, lead, finals, table, letters="ab"):
        self.assertEqual(reason(Rewriter, letters, lead, finals, table), (BadRewriter, None))
        self.assertEqual(reason(Rewriter, letters, lead, tuple(finals), tuple(tuple(row) for row in table)),
                         (BadRewriter, None))

    def test_no_state(self):
        self.fault("", [], [])
        self.fault("", [], [[None, None]])

    def test_a_row_too_few(self):
        self.fault("", ["", ""], [[None, None]])
        self.fault("", [None], [])

    def test_a_row_too_many(self):
        self.fault("", [""], [[None, None], [None, None]])

    def test_an_end_too_few_or_too_many(self):
        self.fault("", [""], [[(0, ""), (0, "")], [None, None]])
        self.fault("", ["", None, None], [[(0, ""), (1, "")], [None, None]])

    def test_a_way_too_few(self):
        self.fault("", ["", ""], [[None, None], [None]])
        self.fault("", ["", ""], [[], [(0, ""), None]])
        self.fault("", [""], [[]], "a")

    def test_a_way_too_many(self):
        self.fault("", ["", ""], [[None, None, None], [None, None]])
        self.fault("", ["", ""], [[(0, ""), (0, "")], [(0, ""), (0, ""), (0, "")]])
        self.fault("", [""], [[None, None]], "a")

    def test_a_next_state_below_0(self):
        self.fault("", ["", ""], [[(0, ""), (-1, "")], [None, None]])
        self.fault("", ["", ""], [[(0, ""), None], [(-2, ""), None]])

    def test_a_next_state_beyond_the_states(self):
        self.fault("", ["", ""], [[(0, ""), None], [(2, ""), None]])
        self.fault("", ["", ""], [[(999999999, ""), None], [None, None]])
        self.fault("", [""], [[(1, "")]], "a")

    def test_letters_of_another_alphabet(self):
        for text in ("c", "abc", "A", " ", "ab "):
            self.fault(text, [""], [[None, None]])
            self.fault("", [text], [[None, None]])
            self.fault("", ["", text], [[None, None], [None, None]])
            self.fault("", [""], [[(0, text), None]])
            self.fault("", ["", None], [[None, (1, "")], [None, (0, text)]])
        self.fault("b", [""], [[None]], "a")

    def test_none_of_these_faults(self):
        self.assertIsNone(reason(Rewriter, "ab", "ba", ["ab", None], [[(1, "ba"), None], [None, (0, "")]]))
        self.assertIsNone(reason(Rewriter, "a", "", [None], [[None]]))

    def test_the_family(self):
        with self.assertRaises(MachineError) as caught:
            Rewriter("ab", "", [], [])
        self.assertNotIsInstance(caught.exception, (LetterError, ProgramError, BadMachine))
        self.assertIsNone(caught.exception.what)


if __name__ == "__main__":
    unittest.main()
