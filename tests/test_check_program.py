"""Points 5.2 and 5.3: programs, and whether they are in order."""

import unittest

from anytext.errors import BadName, BadText, NameTaken, ProgramError, TooMany, UnknownName
from anytext.patterns.reader import read_pattern
from anytext.programs.book import Book
from anytext.programs.program import Program, check_program, names_given, names_read
from anytext.rewriters.chain import in_turn
from anytext.rewriters.rewriter import Rewriter
from helpers import reason

MORE = Rewriter("ab", "", [""], [[(0, "aa"), (0, "b")]])
REFUSES = Rewriter("ab", "", [None], [[None, None]])
BOOK = Book("ab", {"good": read_pattern("ab", "a*"), "both": read_pattern("ab", "ab")}, {"more": MORE, "both": REFUSES})

COPY = ("join", "y", (("name", "x"),))


def join(name, *parts):
    """A join; parts with an apostrophe in front are texts."""
    return ("join", name, tuple(("text", part[1:]) if part.startswith("'") else ("name", part) for part in parts))


class ProgramTest(unittest.TestCase):
    def test_attributes(self):
        program = Program(["x", "z"], [COPY], "y")
        self.assertEqual((program.inputs, program.lines, program.result), (("x", "z"), (COPY,), "y"))
        self.assertIs(type(program.inputs), tuple)
        self.assertIs(type(program.lines), tuple)

    def test_picture(self):
        wanted = (("x",), (COPY, ("need", "y", "good")), "y")
        self.assertEqual(Program(["x"], [COPY, ("need", "y", "good")], "y").picture(), wanted)
        self.assertEqual(Program(("x",), (COPY, ("need", "y", "good")), "y").picture(), wanted)

    def test_any_strings_are_names_of_a_program(self):
        lines = (("turn", "", "No Name"), ("need", "turn", "~"), ("join", "in", ()))
        self.assertEqual(Program((), lines, "?").picture(), ((), lines, "?"))

    def test_what_is_changed_later_has_no_effect(self):
        inputs, lines = ["x"], [COPY]
        program = Program(inputs, lines, "y")
        inputs.append("z")
        lines[0] = ("need", "x", "good")
        self.assertEqual(program.picture(), (("x",), (COPY,), "y"))

    def test_names_of_lines(self):
        lines = (join("y", "b", "'ab", "a", "b"), ("turn", "y", "x"), ("rewrite", "y", "more", "x"),
                 ("choose", "y", "c", "good", "b", "a"), ("need", "x", "good"))
        self.assertEqual([names_read(line) for line in lines],
                         [["b", "a", "b"], ["x"], ["x"], ["c", "b", "a"], ["x"]])
        self.assertEqual([names_given(line) for line in lines], [["y"], ["y"], ["y"], ["y"], []])


class CheckTest(unittest.TestCase):
    def in_order(self, inputs, lines, result):
        program = Program(inputs, lines, result)
        self.assertIsNone(check_program(BOOK, program))
        self.assertEqual(program.picture(), (tuple(inputs), tuple(lines), result))

    def fault(self, inputs, lines, result, error, what):
        program = Program(inputs, lines, result)
        self.assertEqual(reason(check_program, BOOK, program), (error, what))
        self.assertEqual(reason(check_program, BOOK, program), (error, what))
        with self.assertRaises(ValueError):
            check_program(BOOK, program)

    def line_fault(self, line, error, what, inputs=("x",), before=()):
        """The fault of a line, whatever stands behind it."""
        for behind, result in (((), "x"), ((join("x", "nobody"),), "nobody"), ((line,), "")):
            self.fault(inputs, (*before, line, *behind), result, error, what)


class InOrderTest(CheckTest):
    def test_each_kind_of_line(self):
        lines = [join("y", "x", "'ab", "x"), ("turn", "z", "y"), ("rewrite", "w", "more", "z"),
                 ("choose", "v", "w", "good", "x", "y"), ("need", "v", "good"), join("u", "'")]
        self.in_order(["x"], lines, "u")
        self.in_order(["x"], lines, "x")
        self.in_order(["x"], lines, "y")

    def test_inputs(self):
        self.in_order(["x"], [], "x")
        self.in_order(["x", "y"], [], "y")
        self.in_order(["x", "y", "abcdefgh"], [], "abcdefgh")

    def test_twelve_lines(self):
        self.in_order(["x"], [("need", "x", "good")] * 12, "x")
        self.in_order(["x"], [("turn", name, "x") for name in "abcdefghijkl"], "l")

    def test_parts(self):
        self.in_order(["x"], [join("y", "x")], "y")
        self.in_order(["x"], [join("y", *["x"] * 6)], "y")
        self.in_order(["x"], [join("y", *["'ab"] * 6)], "y")
        self.in_order(["x"], [join("y", "'")], "y")

    def test_names_of_several_things_are_no_matter(self):
        self.in_order(["good"], [("rewrite", "more", "both", "good"), ("need", "more", "both")], "more")
        self.in_order(["both"], [("rewrite", "good", "both", "both"), ("need", "both", "both")], "good")


class CountTest(CheckTest):
    def test_inputs(self):
        self.fault([], [], "x", TooMany, "inputs")
        self.fault(["a", "b", "c", "d"], [], "a", TooMany, "inputs")
        self.fault(["a"] * 200, [], "a", TooMany, "inputs")

    def test_lines(self):
        self.fault(["x"], [("need", "x", "good")] * 13, "x", TooMany, "lines")
        self.fault(["x"], [("need", "x", "good")] * 200, "x", TooMany, "lines")

    def test_inputs_come_before_lines(self):
        self.fault([], [COPY] * 13, "x", TooMany, "inputs")
        self.fault(["a", "b", "c", "d"], [COPY] * 13, "x", TooMany, "inputs")

    def test_counts_come_before_names(self):
        self.fault(["A", "A"], [COPY] * 13, "", TooMany, "lines")
        self.fault(["A", "b", "c", "d"], [], "", TooMany, "inputs")

    def test_the_family(self):
        with self.assertRaises(ProgramError):
            check_program(BOOK, Program([], [], "x"))


class InputsTest(CheckTest):
    def test_no_names(self):
        for name in ("", "A", "turn", "give", "abcdefghi", "x1", "a b"):
            self.fault([name], [], name, BadName, name)
            self.fault(["a", "b", name], [], "a", BadName, name)

    def test_names_that_are_taken(self):
        self.fault(["a", "a"], [], "a", NameTaken, "a")
        self.fault(["a", "b", "a"], [], "a", NameTaken, "a")
        self.fault(["a", "b", "b"], [], "a", NameTaken, "b")

    def test_the_first_one_counts(self):
        self.fault(["a", "a", "B"], [], "a", NameTaken, "a")
        self.fault(["B", "a", "a"], [], "a", BadName, "B")
        self.fault(["a", "B", "a"], [], "a", BadName, "B")
        # A string that is no name is taken by nothing.
        self.fault(["in", "in"], [], "a", BadName, "in")

    def test_inputs_come_before_lines(self):
        self.fault(["a", "a"], [("need", "nobody", "nothing")], "none", NameTaken, "a")
        self.fault(["A"], [("need", "nobody", "nothing")], "none", BadName, "A")


class LinesTest(CheckTest):
    def test_names_that_are_read(self):
        for line in (join("y", "q"), join("y", "x", "'a", "q", "p"), ("turn", "y", "q"),
                     ("rewrite", "y", "more", "q"), ("choose", "y", "q", "good", "x", "x"),
                     ("choose", "y", "x", "good", "q", "x"), ("choose", "y", "x", "good", "x", "q"),
                     ("need", "q", "good")):
            self.line_fault(line, UnknownName, "q")

    def test_names_that_are_read_in_the_order_of_the_tuple(self):
        self.line_fault(join("y", "x", "q", "p"), UnknownName, "q")
        self.line_fault(join("y", "p", "q"), UnknownName, "p")
        self.line_fault(("choose", "y", "q", "good", "p", "o"), UnknownName, "q")
        self.line_fault(("choose", "y", "x", "good", "p", "o"), UnknownName, "p")

    def test_a_name_is_known_only_behind_its_line(self):
        self.line_fault(("turn", "y", "y"), UnknownName, "y")
        self.line_fault(join("y", "x", "y"), UnknownName, "y")
        self.fault(["x"], [("turn", "z", "y"), ("turn", "y", "x")], "x", UnknownName, "y")
        self.in_order(["x"], [("turn", "y", "x"), ("turn", "z", "y")], "z")

    def test_names_of_the_book_are_no_names_with_texts(self):
        self.line_fault(("turn", "y", "good"), UnknownName, "good")
        self.line_fault(("need", "more", "good"), UnknownName, "more")

    def test_strings_that_are_no_names_are_unknown(self):
        self.line_fault(("turn", "y", "turn"), UnknownName, "turn")
        self.line_fault(("turn", "y", ""), UnknownName, "")

    def test_parts(self):
        self.line_fault(join("y"), TooMany, "parts")
        self.line_fault(join("y", *["x"] * 7), TooMany, "parts")
        self.line_fault(join("y", *["'a"] * 7), TooMany, "parts")

    def test_texts(self):
        for text in ("c", "abc", "cab", "a b", " ", "A"):
            self.line_fault(join("y", "'" + text), BadText, text)
            self.line_fault(join("y", "x", "'ab", "'" + text, "'zzz"), BadText, text)

    def test_the_book(self):
        for name in ("none", "good", "", "x"):
            self.line_fault(("rewrite", "y", name, "x"), UnknownName, name)
        for name in ("none", "more", "", "x"):
            self.line_fault(("choose", "y", "x", name, "x", "x"), UnknownName, name)
            self.line_fault(("need", "x", name), UnknownName, name)

    def test_the_name_that_gets_a_text(self):
        for name in ("", "Y", "in", "abcdefghi", "y1"):
            for line in (join(name, "x"), ("turn", name, "x"), ("rewrite", name, "more", "x"),
                         ("choose", name, "x", "good", "x", "x")):
                self.line_fault(line, BadName, name)

    def test_the_name_that_gets_a_text_is_taken(self):
        for line in (join("x", "x"), ("turn", "x", "x"), ("rewrite", "x", "more", "x"),
                     ("choose", "x", "x", "good", "x", "x")):
            self.line_fault(line, NameTaken, "x")
        for line in (join("y", "x"), ("turn", "y", "y"), ("rewrite", "y", "more", "y"),
                     ("choose", "y", "y", "good", "x", "x")):
            self.line_fault(line, NameTaken, "y", before=[("need", "x", "good"), COPY])
        self.line_fault(("turn", "z", "x"), NameTaken, "z", inputs=("x", "z"))


class RealBooksTest(unittest.TestCase):
    """Books with patterns and rewriters, some of the same name."""

    LINES = [("rewrite", "y", "one", "x"), ("choose", "z", "y", "two", "x", "y"), ("need", "z", "two")]

    def checked(self, patterns, rewriters, lines=None):
        book = Book("ab", {name: read_pattern("ab", "a*b") for name in patterns},
                    {name: in_turn(MORE, MORE) for name in rewriters})
        return reason(check_program, book, Program(["x"], self.LINES if lines is None else lines, "x"))

    def test_in_order(self):
        self.assertIsNone(self.checked(["two"], ["one"]))
        self.assertIsNone(self.checked(["one", "two"], ["one", "two"]))
        self.assertIsNone(self.checked(["x", "y"], ["x"], [("rewrite", "y", "x", "x"), ("need", "y", "x")]))

    def test_a_pattern_where_a_rewriter_is_due(self):
        self.assertEqual(self.checked(["one", "two"], ["two"]), (UnknownName, "one"))
        self.assertEqual(self.checked(["one", "two"], []), (UnknownName, "one"))

    def test_a_rewriter_where_a_pattern_is_due(self):
        self.assertEqual(self.checked(["one"], ["one", "two"]), (UnknownName, "two"))
        self.assertEqual(self.checked([], ["one", "two"], self.LINES[:2]), (UnknownName, "two"))
        self.assertEqual(self.checked([], ["one", "two"], [("need", "x", "two")]), (UnknownName, "two"))

    def test_a_rewriter_that_refuses_all_texts_is_in_order(self):
        book = Book("ab", {}, {"no": REFUSES})
        self.assertIsNone(check_program(book, Program(["x"], [("rewrite", "y", "no", "x")], "y")))


class TwoFaultsTest(CheckTest):
    """The order of the checks within a line, and of lines."""

    def test_names_that_are_read_come_first(self):
        self.line_fault(join("y", *["q"] * 7), UnknownName, "q")
        self.line_fault(join("y", "'c", "q"), UnknownName, "q")
        self.line_fault(join("Y", "q"), UnknownName, "q")
        self.line_fault(join("x", "q"), UnknownName, "q")
        self.line_fault(("rewrite", "y", "none", "q"), UnknownName, "q")
        self.line_fault(("choose", "y", "x", "none", "x", "q"), UnknownName, "q")
        self.line_fault(("need", "q", "none"), UnknownName, "q")
        self.line_fault(("turn", "Y", "q"), UnknownName, "q")

    def test_the_number_of_parts_comes_before_texts(self):
        self.line_fault(join("y", *["'c"] * 7), TooMany, "parts")
        self.line_fault(join("y", *["x"] * 6, "'c"), TooMany, "parts")

    def test_what_is_needed_comes_before_the_name_that_gets_a_text(self):
        self.line_fault(join("Y"), TooMany, "parts")
        self.line_fault(join("x"), TooMany, "parts")
        self.line_fault(join("Y", "'c"), BadText, "c")
        self.line_fault(join("x", "'c"), BadText, "c")
        self.line_fault(("rewrite", "Y", "none", "x"), UnknownName, "none")
        self.line_fault(("rewrite", "x", "none", "x"), UnknownName, "none")
        self.line_fault(("choose", "x", "x", "none", "x", "x"), UnknownName, "none")
        self.line_fault(("choose", "Y", "x", "none", "x", "x"), UnknownName, "none")

    def test_no_name_comes_before_a_name_that_is_taken(self):
        self.fault(["x"], [join("Y", "x"), join("Y", "x")], "x", BadName, "Y")

    def test_the_first_line_counts(self):
        one, other = join("y", "'c"), ("need", "x", "none")
        self.fault(["x"], [one, other], "x", BadText, "c")
        self.fault(["x"], [other, one], "x", UnknownName, "none")
        one, other = join("X", "x"), ("turn", "x", "x")
        self.fault(["x"], [one, other], "x", BadName, "X")
        self.fault(["x"], [other, one], "x", NameTaken, "x")
        one, other = join("y"), ("turn", "y", "q")
        self.fault(["x"], [one, other], "x", TooMany, "parts")
        self.fault(["x"], [other, one], "x", UnknownName, "q")

    def test_a_line_that_breaks_a_rule_comes_before_the_result(self):
        self.fault(["x"], [("need", "x", "none")], "nobody", UnknownName, "none")


class ResultTest(CheckTest):
    def test_the_result(self):
        for name in ("y", "", "turn", "good", "more", "X"):
            self.fault(["x"], [], name, UnknownName, name)
            self.fault(["x"], [join("z", "x"), ("need", "x", "good")], name, UnknownName, name)


if __name__ == "__main__":
    unittest.main()
