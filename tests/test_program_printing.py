"""Points 5.4 and 5.5: printing programs."""

import unittest

from anytext.letters.alphabet import LETTERS
from anytext.programs.printing import print_program
from anytext.programs.program import Program
from anytext.programs.reader import read_program
from helpers import seeded

NAMES = ("x", "y", "z", "turns", "verylongnames", "i", "inn")


def random_line(rng):
    """A line of any kind, with any names and letters."""
    name, source, third, yes, no = [rng.choice(NAMES) for _ in range(5)]
    parts = [rng.choice([("name", rng.choice(NAMES)), ("text", "".join(rng.choices(LETTERS, k=rng.randint(0, 4))))])
             for _ in range(rng.randint(1, 8))]
    return rng.choice([("join", name, tuple(parts)), ("turn", name, source), ("rewrite", name, third, source),
                       ("choose", name, source, third, yes, no), ("need", source, third)])


class PrintTest(unittest.TestCase):
    def prints(self, inputs, lines, result, notation):
        program = Program(inputs, lines, result)
        self.assertEqual(print_program(program), notation)
        self.assertEqual(program.picture(), (tuple(inputs), tuple(lines), result))

    def reads(self, inputs, lines, result, notation):
        self.prints(inputs, lines, result, notation)
        self.assertEqual(read_program(notation).picture(), (tuple(inputs), tuple(lines), result))

    def line(self, line, notation):
        self.reads(["x"], [line], "y", f"x: {notation}; give y")

    def test_inputs(self):
        self.reads(["x"], [], "x", "x: give x")
        self.reads(["x", "y"], [], "y", "x, y: give y")
        self.reads(["x", "y", "x", "longernamex"], [], "q", "x, y, x, longernamex: give q")

    def test_each_kind_of_line(self):
        self.line(("turn", "y", "x"), "y = turn x")
        self.line(("rewrite", "y", "more", "x"), "y = rewrite more x")
        self.line(("choose", "y", "a", "b", "c", "d"), "y = if a in b then c else d")
        self.line(("need", "x", "good"), "need x in good")
        self.line(("join", "y", (("name", "x"),)), "y = x")

    def test_joins(self):
        self.line(("join", "y", (("text", ""),)), "y = ''")
        self.line(("join", "y", (("text", "ab"), ("name", "x"), ("name", "x"), ("text", "b"))), "y = 'ab' x x 'b'")
        self.line(("join", "y", (("text", ""), ("text", ""), ("name", "x"))), "y = '' '' x")
        self.line(("join", "y", (("text", LETTERS), ("text", "turn"))), f"y = '{LETTERS}' 'turn'")
        self.line(("join", "y", (("name", "x"),) * 8), "y = x x x x x x x x")

    def test_several_lines(self):
        self.reads(["x", "y"], [("join", "z", (("name", "x"), ("text", "ab"), ("name", "y"))), ("need", "z", "good"),
                                ("turn", "w", "z")], "z",
                   "x, y: z = x 'ab' y; need z in good; w = turn z; give z")

    def test_the_document(self):
        notation = "x, y: z = x 'ab' y; need z in good; give z"
        self.assertEqual(print_program(read_program(notation)), notation)
        self.assertEqual(print_program(read_program(" x ,y:z=x'ab'y ;need  z in good;give z ")), notation)

    def test_a_join_without_parts(self):
        self.prints(["x"], [("join", "y", ())], "y", "x: y = ; give y")
        self.prints(["x"], [("join", "y", ()), ("join", "z", ())], "y", "x: y = ; z = ; give y")

    def test_no_inputs(self):
        self.prints([], [], "y", ": give y")
        self.prints([], [("turn", "y", "x")], "y", ": y = turn x; give y")

    def test_strings_that_are_no_names(self):
        self.prints(["No Name", ""], [("turn", "turn", "~")], "", "No Name, : turn = turn ~; give ")
        self.prints(["in"], [("need", "A", "if"), ("rewrite", "", "a;", "in")], "give",
                    "in: need A in if;  = rewrite a; in; give give")
        self.prints(["x"], [("join", "y", (("text", "a b"), ("name", "B"), ("text", "'")))], "y",
                    "x: y = 'a b' B '''; give y")

    def test_names_that_are_not_known(self):
        self.reads(["x"], [("need", "nobody", "nothing"), ("rewrite", "x", "no", "x")], "other",
                   "x: need nobody in nothing; x = rewrite no x; give other")

    def test_random_programs_are_read_again(self):
        rng = seeded(21)
        for _ in range(500):
            program = Program([rng.choice(NAMES) for _ in range(rng.randint(1, 4))],
                              [random_line(rng) for _ in range(rng.randint(0, 12))], rng.choice(NAMES))
            notation = print_program(program)
            if len(notation) <= 1000:
                self.assertEqual(read_program(notation).picture(), program.picture())
                self.assertEqual(print_program(read_program(notation)), notation)

    def test_1000_characters(self):
        lines = [("need", "x", "good")] * 61 + [("turn", "yyyy", "x")]
        notation = print_program(Program(["x"], lines, "x"))
        self.assertEqual(notation, "x: " + "need x in good; " * 61 + "yyyy = turn x; give x")
        self.assertEqual(len(notation), 1000)
        self.assertEqual(read_program(notation).picture(), (("x",), tuple(lines), "x"))
        self.assertEqual(len(print_program(Program(["x"] * 200, lines * 3, "x"))), 200 * 3 + 3 * (61 * 16 + 15) + 6)


if __name__ == "__main__":
    unittest.main()
