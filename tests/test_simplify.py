"""Point 5.6: simplifying programs."""

import unittest

from anytext.patterns.reader import read_pattern
from anytext.programs.book import Book
from anytext.programs.printing import print_program
from anytext.programs.program import Program, check_program, names_given, names_read
from anytext.programs.reader import read_program
from anytext.programs.run import run
from anytext.programs.simplify import simplified
from anytext.rewriters.recipes import read_recipe
from helpers import inputs_up_to, random_program, seeded

NOTATIONS = {"some": "a*", "all": "[ab]*", "every": "a.*|b.*|()", "nothing": "[]", "long": "..+"}
RECIPES = {"more": "letters a>aa", "noab": "replace ab by ()", "few": "only !(.*bb.*)", "never": "only []", "keep": "only .*"}
PATTERNS = {name: read_pattern("ab", NOTATIONS[name]) for name in NOTATIONS}
REWRITERS = {name: read_recipe("ab", RECIPES[name]) for name in RECIPES}
BOOK = Book("ab", PATTERNS, REWRITERS)
# To these all texts belong, and these refuse no text.
WIDE, WILLING = ("all", "every"), ("more", "noab", "keep")


def copies(program):
    """The lines that are copies."""
    turns = [line[1] for line in program.lines if line[0] == "turn"]
    return [line for line in program.lines
            if line[0] == "join" and len(line[2]) == 1 and line[2][0][0] == "name"
            or line[0] == "turn" and line[2] in turns or line[0] == "choose" and line[4] == line[5]]


def idle_lines(program):
    """The lines that are idle."""
    found = []
    for index, line in enumerate(program.lines):
        if line[0] == "need":
            refuses, read = line[2] not in WIDE, False
        else:
            refuses = line[0] == "rewrite" and line[2] not in WILLING
            later = [name for other in program.lines[index + 1:] for name in names_read(other)]
            read = line[1] in later or line[1] == program.result
        if not refuses and not read:
            found.append(line)
    return found


def blank(line):
    """The line without the names that it reads."""
    if line[0] == "join":
        return line[:2] + (tuple((sort, "" if sort == "name" else part) for sort, part in line[2]),)
    if line[0] == "choose":
        return line[:2] + line[3:4]
    return {"turn": line[:2], "rewrite": line[:3], "need": line[2:]}[line[0]]


class SimplifiedTest(unittest.TestCase):
    def holds(self, program):
        """All that point 5.6 asks of the program that comes out."""
        before = program.picture()
        self.assertIsNone(check_program(BOOK, program))
        found = simplified(BOOK, program)
        self.assertIs(type(found), Program)
        self.assertEqual(program.picture(), before)
        self.assertIsNone(check_program(BOOK, found))
        self.assertEqual(found.inputs, program.inputs)
        self.assertEqual((copies(found), idle_lines(found)), ([], []))
        left = list(program.lines)
        for line in found.lines:
            # The lines are lines of the given program, in the same order, but for the names that they read.
            while blank(left[0]) != blank(line) or names_given(left[0]) != names_given(line):
                left.pop(0)
            left.pop(0)
        for inputs in inputs_up_to("ab", len(program.inputs), 4 if len(program.inputs) == 1 else 3):
            told, wanted = run(BOOK, found, inputs), run(BOOK, program, inputs)
            self.assertEqual(told[0], wanted[0])
            if wanted[0] == "gives":
                self.assertEqual(told, wanted)
        self.assertEqual(simplified(BOOK, found).picture(), found.picture())
        return found

    def becomes(self, notation, wanted):
        found = self.holds(read_program(notation))
        self.assertEqual(print_program(found), wanted)

    def test_copies_of_each_kind(self):
        self.becomes("x: y = x; z = y 'a'; give z", "x: z = x 'a'; give z")
        self.becomes("x: y = turn x; z = turn y; w = z y; give w", "x: y = turn x; w = x y; give w")
        self.becomes("x, y: z = if x in some then y else y; w = z x; give w", "x, y: w = y x; give w")

    def test_copies_of_copies(self):
        self.becomes("x: y = x; z = y; w = z; v = w y z 'a'; give v", "x: v = x x x 'a'; give v")
        self.becomes("x: y = x; z = turn y; w = z; v = turn w; u = v 'a' z; give u", "x: z = turn x; u = x 'a' z; give u")
        self.becomes("x: y = turn x; z = turn y; w = turn z; v = turn w; give v", "x: give x")
        self.becomes("x: y = turn x; z = turn y; w = turn z; give w", "x: w = turn x; give w")
        # A choose becomes a copy when both of its names stand for one.
        self.becomes("x, y: z = x; w = if y in some then z else x; v = w y; give v", "x, y: v = x y; give v")

    def test_no_copies(self):
        for notation in ("x: y = x ''; give y", "x: y = '' x; give y", "x: y = 'a'; give y", "x: y = x x; give y",
                         "x: y = turn x; give y", "x: y = rewrite keep x; give y", "x: y = x x; z = turn y; give z",
                         "x, y: z = if x in some then x else y; give z", "x, y: z = if x in all then x else y; give z"):
            self.becomes(notation, notation)

    def test_idle_lines_of_each_kind(self):
        self.becomes("x: y = x 'a'; give x", "x: give x")
        self.becomes("x: y = turn x; give x", "x: give x")
        self.becomes("x, y: z = if x in some then y else x; give x", "x, y: give x")
        self.becomes("x: y = rewrite more x; z = rewrite noab x; give x", "x: give x")
        self.becomes("x: need x in all; give x", "x: give x")
        self.becomes("x: need x in every; need x in some; give x", "x: need x in some; give x")

    def test_lines_that_may_refuse_are_not_idle(self):
        for notation in ("x: y = rewrite few x; give x", "x: y = rewrite never x; give x", "x: need x in some; give x",
                         "x: need x in nothing; give x"):
            self.becomes(notation, notation)
        self.becomes("x: y = turn x; z = rewrite few y; w = z z; give x", "x: y = turn x; z = rewrite few y; give x")

    def test_rewriters_that_refuse_no_text(self):
        self.becomes("x: y = rewrite keep x; give x", "x: give x")
        self.becomes("x: y = rewrite keep x; z = rewrite few y; give x", "x: y = rewrite keep x; z = rewrite few y; give x")

    def test_lines_that_become_idle(self):
        self.becomes("x: y = x 'a'; z = turn y; w = z z; give x", "x: give x")
        self.becomes("x: y = x 'a'; need y in all; give x", "x: give x")
        # A turn that only its own turning back read.
        self.becomes("x: y = turn x; z = turn y; give z", "x: give x")
        self.becomes("x, y: z = x x; w = if z in some then y else y; give w", "x, y: give y")

    def test_a_result_that_is_a_copy(self):
        self.becomes("x: y = x; give y", "x: give x")
        self.becomes("x: y = x 'a'; z = y; give z", "x: y = x 'a'; give y")
        self.becomes("x: y = x 'a'; z = turn y; w = turn z; give w", "x: y = x 'a'; give y")

    def test_other_names_in_each_place(self):
        self.becomes("x: y = x; need y in some; z = rewrite few y; w = if y in long then z else y; v = 'a' y w; give v",
                     "x: need x in some; z = rewrite few x; w = if x in long then z else x; v = 'a' x w; give v")

    def test_texts_and_other_names_that_look_like_a_copy(self):
        # The text `b` and the pattern `all` are no names of texts.
        self.becomes("x: b = x; all = x; c = 'b' b; need all in all; d = if c in all then c else b; give d",
                     "x: c = 'b' x; d = if c in all then c else x; give d")
        self.becomes("x: few = x; y = rewrite few few; give y", "x: y = rewrite few x; give y")

    def test_nothing_to_do(self):
        for notation in ("x: give x", "x, y, z: give y", "x: need x in some; y = x x; need y in long; give y"):
            self.becomes(notation, notation)

    def test_twelve_lines(self):
        notation = "x: " + " ".join(f"{'abcdefghijkl'[index]} = turn {'xabcdefghijk'[index]};" for index in range(12))
        self.becomes(notation + " give l", "x: give x")
        self.becomes(notation + " give k", "x: k = turn x; give k")

    def test_random_programs(self):
        rng = seeded(130)
        shorter = 0
        for _ in range(250):
            program = random_program(rng, rng.randint(0, 8), PATTERNS, REWRITERS, 2)
            shorter += len(self.holds(program).lines) < len(program.lines)
        self.assertGreater(shorter, 100)

    def test_the_example(self):
        book = Book("ab", {"some": read_pattern("ab", "a*")}, {})
        program = read_program("x: y = turn x; z = turn y; w = if y in some then z else x; give w")
        self.assertEqual(print_program(simplified(book, program)), "x: give x")


if __name__ == "__main__":
    unittest.main()
