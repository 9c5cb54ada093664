"""Points 5.1 and 5.2: running programs."""

import unittest

from anytext.errors import BadText, LetterError, ProgramError, WrongCount
from anytext.patterns.reader import read_pattern
from anytext.programs.book import Book
from anytext.programs.program import Program
from anytext.programs.reader import read_program
from anytext.programs.run import run, texts_on_the_way
from anytext.rewriters.recipes import read_recipe
from helpers import plainly_run, random_program, reason, seeded, texts_up_to

NOTATIONS = {"some": "a*", "long": "..+", "nothing": "[]", "all": ".*", "both": "ab"}
RECIPES = {"more": "letters a>aa", "noab": "replace ab by ()", "few": "only !(.*bb.*)", "both": "letters a>b b>a",
           "never": "only []"}
PATTERNS = {name: read_pattern("ab", NOTATIONS[name]) for name in NOTATIONS}
REWRITERS = {name: read_recipe("ab", RECIPES[name]) for name in RECIPES}
BOOK = Book("ab", PATTERNS, REWRITERS)


class RunTest(unittest.TestCase):
    def gives(self, notation, *pairs):
        """The program gives the last one of each row for the other ones."""
        program = read_program(notation)
        for *inputs, wanted in pairs:
            told = ("refuses", wanted) if isinstance(wanted, int) else ("gives", wanted)
            self.assertEqual(run(BOOK, program, inputs), told, inputs)
            self.assertEqual(run(BOOK, program, tuple(inputs)), told, inputs)

    def on_the_way(self, notation, inputs, wanted):
        found = texts_on_the_way(BOOK, read_program(notation), inputs)
        self.assertIs(type(found), list)
        self.assertEqual([type(pair) for pair in found], [tuple] * len(found))
        self.assertEqual(found, wanted)

    def test_no_lines(self):
        self.gives("x: give x", ("", ""), ("ab", "ab"))
        self.gives("x, y: give y", ("a", "b", "b"))

    def test_join(self):
        self.gives("x: y = x x; give y", ("", ""), ("ab", "abab"))
        self.gives("x, y: z = y 'ab' x '' y; give z", ("", "", "ab"), ("a", "bb", "bbababb"))
        self.gives("x: y = 'ba'; give y", ("", "ba"), ("aaa", "ba"))
        self.gives("x: y = x; give y", ("ab", "ab"))

    def test_turn(self):
        self.gives("x: y = turn x; give y", ("", ""), ("a", "a"), ("aab", "baa"), ("abba", "abba"))

    def test_rewrite(self):
        self.gives("x: y = rewrite more x; give y", ("", ""), ("ab", "aab"))
        self.gives("x: y = rewrite few x; give y", ("", ""), ("ab", "ab"), ("bb", 0), ("abba", 0))
        self.gives("x: y = rewrite both x; give y", ("aab", "bba"))

    def test_choose(self):
        self.gives("x, y, z: w = if x in some then y else z; give w", ("", "a", "b", "a"), ("aa", "a", "b", "a"),
                   ("ab", "a", "b", "b"))
        self.gives("x: w = if x in both then x else x; give w", ("ab", "ab"), ("b", "b"))

    def test_need(self):
        self.gives("x: need x in some; give x", ("", ""), ("aa", "aa"), ("ab", 0))
        self.gives("x: need x in nothing; give x", ("", 0), ("a", 0))
        self.gives("x: need x in all; give x", ("", ""), ("bab", "bab"))

    def test_refusing_at_the_first_and_at_the_last_line(self):
        self.gives("x, y: z = rewrite few x; need y in some; w = z y; give w",
                   ("bb", "b", 0), ("bb", "a", 0), ("b", "b", 1), ("b", "a", "ba"))
        self.gives("x: y = x 'b'; z = turn y; w = rewrite few z; give x", ("a", "a"), ("ab", 2))
        self.gives("x: y = x 'b'; z = turn y; need z in long; give y", ("a", "ab"), ("", 2))
        self.gives("x: need x in long; need x in some; give x", ("a", 0), ("ab", 1), ("aa", "aa"))
        # A line refuses also if its text is read nowhere.
        self.gives("x: y = rewrite never x; give x", ("", 0), ("a", 0))

    def test_a_pattern_and_a_rewriter_with_one_name(self):
        self.gives("x: need x in both; y = rewrite both x; give y", ("ab", "ba"), ("ba", 0))

    def test_on_the_way(self):
        self.on_the_way("x, y: z = y x; need z in long; w = rewrite few z; v = turn w; give x", ["a", "ba"],
                        [("x", "a"), ("y", "ba"), ("z", "baa"), ("w", "baa"), ("v", "aab")])
        self.on_the_way("x, y: z = y x; need z in long; w = rewrite few z; v = turn w; give x", ["", "a"],
                        [("x", ""), ("y", "a"), ("z", "a")])
        self.on_the_way("x, y: z = y x; need z in long; w = rewrite few z; v = turn w; give x", ("b", "b"),
                        [("x", "b"), ("y", "b"), ("z", "bb")])
        self.on_the_way("x: need x in nothing; give x", ["ab"], [("x", "ab")])
        self.on_the_way("x: give x", ["ab"], [("x", "ab")])

    def test_random_programs(self):
        rng = seeded(120)
        for _ in range(150):
            program = random_program(rng, rng.randint(0, 8), PATTERNS, REWRITERS)
            before = program.picture()
            texts = texts_up_to("ab", 3)
            for _ in range(20):
                inputs = [rng.choice(texts) for _ in program.inputs]
                told, on_the_way = plainly_run(PATTERNS, REWRITERS, program, inputs)
                passed = list(inputs)
                self.assertEqual(run(BOOK, program, inputs), told)
                self.assertEqual(texts_on_the_way(BOOK, program, inputs), on_the_way)
                self.assertEqual(inputs, passed)
            self.assertEqual(program.picture(), before)

    def test_twelve_lines_and_long_texts(self):
        lines = [("join", "abcdefgh"[index], (("name", "xabcdefgh"[index]),) * 2) for index in range(8)]
        program = Program(["x"], lines + [("turn", "p", "h"), ("need", "p", "all"), ("turn", "q", "p"), ("need", "h", "all")], "q")
        self.assertEqual(run(BOOK, program, ["ab" * 500]), ("gives", "ab" * 500 * 256))

    def test_a_returned_list_that_is_changed_later(self):
        program = read_program("x: y = x x; give y")
        texts_on_the_way(BOOK, program, ["a"]).append(("x", "b"))
        self.assertEqual(texts_on_the_way(BOOK, program, ["a"]), [("x", "a"), ("y", "aa")])

    def test_wrong_count(self):
        for call in (run, texts_on_the_way):
            for notation, inputs in (("x: give x", []), ("x: give x", ["a", "b"]), ("x, y: give x", ["a"]),
                                     ("x, y, z: give x", ("a", "b")), ("x, y: give x", ("", "", ""))):
                self.assertEqual(reason(call, BOOK, read_program(notation), inputs), (WrongCount, len(inputs)))

    def test_bad_text(self):
        for call in (run, texts_on_the_way):
            program = read_program("x, y: need x in nothing; give y")
            self.assertEqual(reason(call, BOOK, program, ["abc", "a"]), (BadText, "abc"))
            self.assertEqual(reason(call, BOOK, program, ["a", "a a"]), (BadText, "a a"))
            self.assertEqual(reason(call, BOOK, program, ["c", "d"]), (BadText, "c"))
            self.assertEqual(reason(call, BOOK, program, ["", "A"]), (BadText, "A"))

    def test_which_error_comes_first(self):
        for call in (run, texts_on_the_way):
            self.assertEqual(reason(call, BOOK, read_program("x: give x"), ["c", "d"]), (WrongCount, 2))
            self.assertEqual(reason(call, BOOK, read_program("x, y: give x"), ["c"]), (WrongCount, 1))

    def test_the_families(self):
        with self.assertRaises(ProgramError):
            run(BOOK, read_program("x: give x"), [])
        with self.assertRaises(LetterError):
            run(BOOK, read_program("x: give x"), ["c"])


if __name__ == "__main__":
    unittest.main()
