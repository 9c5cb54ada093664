"""Points 6.1 and 6.3: claims, and inputs that break them."""

import unittest

from anytext.claims.claim import Claim, breaks, check_claim
from anytext.errors import BadName, BadText, LetterError, NameTaken, ProgramError, TooMany, UnknownName, WrongCount
from anytext.patterns.reader import read_pattern
from anytext.programs.book import Book
from anytext.programs.program import Program
from anytext.programs.reader import read_program
from anytext.rewriters.recipes import read_recipe
from helpers import inputs_up_to, plainly_belongs, plainly_run, random_program, reason, seeded

NOTATIONS = {"some": "a*", "long": "..+", "nothing": "[]", "all": ".*"}
PATTERNS = {name: read_pattern("ab", NOTATIONS[name]) for name in NOTATIONS}
REWRITERS = {"few": read_recipe("ab", "only !(.*bb.*)"), "more": read_recipe("ab", "letters a>aa")}
BOOK = Book("ab", PATTERNS, REWRITERS)


class ClaimTest(unittest.TestCase):
    def test_picture(self):
        self.assertEqual(Claim(["some", "all"], "long").picture(), (("some", "all"), "long", True))
        self.assertEqual(Claim(("some",), "long", False).picture(), (("some",), "long", False))
        self.assertEqual(Claim([], "?", refusals=True).picture(), ((), "?", True))
        self.assertEqual(Claim(inputs=("a",), output="b", refusals=False).picture(), (("a",), "b", False))

    def test_a_list_that_is_changed_later(self):
        names = ["some"]
        claim = Claim(names, "all")
        names.append("long")
        names[0] = "none"
        self.assertEqual(claim.picture(), (("some",), "all", True))
        self.assertIsNone(check_claim(BOOK, read_program("x: give x"), claim))


class CheckClaimTest(unittest.TestCase):
    def test_in_order(self):
        for notation, inputs in (("x: give x", ["some"]), ("x, y: z = x y; give z", ["all", "nothing"]),
                                 ("x, y, z: need x in some; give y", ("all", "all", "all"))):
            for refusals in (True, False):
                self.assertIsNone(check_claim(BOOK, read_program(notation), Claim(inputs, "long", refusals)))

    def test_the_errors_of_programs(self):
        good = Claim(["some"], "all")
        for program, error in (
                (Program([], [], "x"), (TooMany, "inputs")), (Program(["x"] * 4, [], "x"), (TooMany, "inputs")),
                (Program(["x"], [("need", "x", "some")] * 13, "x"), (TooMany, "lines")),
                (Program(["X"], [], "X"), (BadName, "X")), (Program(["x", "x"], [], "x"), (NameTaken, "x")),
                (Program(["x"], [("need", "x", "more")], "x"), (UnknownName, "more")),
                (Program(["x"], [("rewrite", "y", "some", "x")], "x"), (UnknownName, "some")),
                (Program(["x"], [("join", "y", ())], "x"), (TooMany, "parts")),
                (Program(["x"], [("join", "y", (("text", "c"),))], "x"), (BadText, "c")),
                (Program(["x"], [], "y"), (UnknownName, "y"))):
            self.assertEqual(reason(check_claim, BOOK, program, good), error)
            # They come before those of the claim.
            self.assertEqual(reason(check_claim, BOOK, program, Claim(["no", "not", "nor", "non", "none"], "never")), error)

    def test_wrong_count(self):
        for notation, inputs in (("x: give x", []), ("x: give x", ["some", "some"]), ("x, y: give x", ["some"]),
                                 ("x, y, z: give x", ["some"] * 4), ("x: give x", ["more", "none"])):
            self.assertEqual(reason(check_claim, BOOK, read_program(notation), Claim(inputs, "all")),
                             (WrongCount, len(inputs)))
            self.assertEqual(reason(check_claim, BOOK, read_program(notation), Claim(inputs, "none")),
                             (WrongCount, len(inputs)))

    def test_unknown_names(self):
        for inputs, output, name in ((["none"], "all", "none"), (["some"], "none", "none"), (["more"], "few", "more"),
                                     (["some"], "few", "few"), (["Some"], "", "Some"), (["some"], "", "")):
            self.assertEqual(reason(check_claim, BOOK, read_program("x: give x"), Claim(inputs, output)), (UnknownName, name))
        program = read_program("x, y, z: give x")
        self.assertEqual(reason(check_claim, BOOK, program, Claim(["all", "zz", "aa"], "aaa")), (UnknownName, "zz"))
        self.assertEqual(reason(check_claim, BOOK, program, Claim(["all", "all", "zz"], "aaa")), (UnknownName, "zz"))
        self.assertEqual(reason(check_claim, BOOK, program, Claim(["all", "all", "all"], "aaa")), (UnknownName, "aaa"))

    def test_the_family(self):
        with self.assertRaises(ProgramError):
            check_claim(BOOK, read_program("x: give x"), Claim([], "all"))


class BreaksTest(unittest.TestCase):
    def tells(self, notation, claim, broken, kept):
        program = read_program(notation)
        for inputs in broken:
            self.assertIs(breaks(BOOK, program, claim, inputs), True, inputs)
        for inputs in kept:
            self.assertIs(breaks(BOOK, program, claim, inputs), False, inputs)

    def test_giving(self):
        self.tells("x: y = x x; give y", Claim(["some"], "long"), [[""]], [["a"], ["aa"], ["b"], ("ab",)])
        self.tells("x: y = x 'b'; give y", Claim(["all"], "some"), [[""], ["a"], ("bb",)], [])

    def test_inputs_that_do_not_belong_to_their_patterns(self):
        self.tells("x, y: z = x y; give z", Claim(["some", "long"], "some"), [["a", "ab"], ("", "bb")],
                   [["b", "ab"], ["a", "b"], ["b", "b"], ["a", "aa"]])
        self.tells("x: give x", Claim(["nothing"], "nothing"), [], [[""], ["a"]])
        self.tells("x: need x in nothing; give x", Claim(["some"], "all", False), [["a"]], [["b"]])

    def test_refusing_let(self):
        for refusals, broken, kept in ((True, [], [["bb"], ["abba"], ["a"], ["bab"]]),
                                       (False, [["bb"], ["abba"]], [["a"], ["bab"], ["aa"]])):
            self.tells("x: y = rewrite few x; give y", Claim(["all"], "all", refusals), broken, kept)
        notation = "x: need x in some; y = rewrite more x; z = y 'bb'; w = rewrite few z; give w"
        self.tells(notation, Claim(["all"], "nothing"), [], [[""], ["a"], ["b"]])
        self.tells(notation, Claim(["all"], "all", False), [[""], ["a"], ["b"]], [])

    def test_refusing_and_not_to_be_let_alone(self):
        # The program refuses what would not belong to the output.
        self.tells("x: need x in some; give x", Claim(["all"], "some"), [], [["a"], ["b"], ["ab"]])
        self.tells("x: need x in some; give x", Claim(["all"], "some", False), [["b"], ["ab"]], [["a"], [""]])
        self.tells("x: need x in some; give x", Claim(["some"], "some", False), [], [["b"], ["ab"], ["a"], [""]])

    def test_random_programs(self):
        rng = seeded(140)
        told = {True: 0, False: 0}
        for _ in range(60):
            program = random_program(rng, rng.randint(0, 5), PATTERNS, REWRITERS)
            names = [rng.choice(sorted(PATTERNS)) for _ in program.inputs]
            claim = Claim(names, rng.choice(sorted(PATTERNS)), rng.random() < 0.5)
            for inputs in inputs_up_to("ab", len(names), 3)[:40]:
                word, text = plainly_run(PATTERNS, REWRITERS, program, inputs)[0]
                wrong = not claim.refusals if word == "refuses" else not plainly_belongs(PATTERNS[claim.output], text)
                wanted = wrong and all(plainly_belongs(PATTERNS[name], given) for name, given in zip(names, inputs))
                self.assertIs(breaks(BOOK, program, claim, list(inputs)), wanted)
                told[wanted] += 1
        self.assertGreater(min(told.values()), 200)

    def test_the_errors(self):
        program = read_program("x, y: give x")
        good = Claim(["some", "all"], "all")
        self.assertEqual(reason(breaks, BOOK, program, good, ["a"]), (WrongCount, 1))
        self.assertEqual(reason(breaks, BOOK, program, good, ["a", "b", "c"]), (WrongCount, 3))
        self.assertEqual(reason(breaks, BOOK, program, good, ["b", "c"]), (BadText, "c"))
        self.assertEqual(reason(breaks, BOOK, program, good, ["d", "c"]), (BadText, "d"))
        self.assertEqual(reason(breaks, BOOK, program, Claim(["nothing", "all"], "all"), ["b", "c"]), (BadText, "c"))

    def test_which_error_comes_first(self):
        self.assertEqual(reason(breaks, BOOK, read_program("x: give y"), Claim([], "none"), ["c"]), (UnknownName, "y"))
        self.assertEqual(reason(breaks, BOOK, read_program("x: give x"), Claim([], "none"), ["c", "c"]), (WrongCount, 0))
        self.assertEqual(reason(breaks, BOOK, read_program("x: give x"), Claim(["all"], "none"), ["c", "c"]), (UnknownName, "none"))
        self.assertEqual(reason(breaks, BOOK, read_program("x: give x"), Claim(["all"], "all"), ["c", "c"]), (WrongCount, 2))

    def test_the_family(self):
        with self.assertRaises(LetterError):
            breaks(BOOK, read_program("x: give x"), Claim(["all"], "all"), ["c"])


if __name__ == "__main__":
    unittest.main()
