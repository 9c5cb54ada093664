"""Points 0.2, 6.1, 6.2, 6.4 and 6.6: deciding claims, and all inputs that break them."""

import unittest

from anytext.claims.claim import Claim, breaks
from anytext.claims.decide import breaking, breaking_machine, decide
from anytext.claims.judge import judge
from anytext.errors import TooMany, UnknownName, WrongCount
from anytext.letters.alphabet import order_key
from anytext.machines.machine import Machine
from anytext.machines.search import is_empty
from anytext.patterns.reader import read_pattern
from anytext.programs.book import Book
from anytext.programs.program import Program
from anytext.programs.reader import read_program
from anytext.rewriters.recipes import read_recipe
from helpers import inputs_up_to, is_least, random_program, random_rewriter, reason, seeded, texts_up_to

NOTATIONS = {"some": "a*", "long": "..+", "nothing": "[]", "all": ".*", "pairs": "(ab)*", "noaa": "!(.*aa.*)",
             "even": "(..)*", "odd": ".(..)*", "endb": ".*b", "short": ".?.?", "three": "(...)*", "hasab": ".*ab.*"}
RECIPES = {"more": "letters a>aa", "noab": "replace ab by ()", "few": "only !(.*bb.*)", "swap": "letters a>b b>a",
           "head": "before ab", "tail": "after ba", "never": "only []", "aba": "replace aba by bb"}


def book_of(letters, notations=NOTATIONS, recipes=RECIPES):
    return Book(letters, {name: read_pattern(letters, notations[name]) for name in notations},
                {name: read_recipe(letters, recipes[name]) for name in recipes})


BOOK = book_of("ab")
TURNED = book_of("ba")


def least_breaking(book, program, claim, total):
    """The first inputs that break the claim, of those with so many letters together at most, or None."""
    for inputs in inputs_up_to(book.letters, len(program.inputs), total):
        if breaks(book, program, claim, inputs):
            return inputs
    return None


class ClaimsTest(unittest.TestCase):
    def decided(self, book, program, claim):
        """What decide tells, after looking at all that point 0.2 says of it."""
        before = (program.picture(), claim.picture())
        total = {1: 6, 2: 4, 3: 3}[len(program.inputs)]
        wanted = least_breaking(book, program, claim, total)
        word, told = decide(book, program, claim)
        self.assertEqual(decide(book, program, claim), (word, told))
        if word == "holds":
            self.assertIsNone(wanted)
            self.assertIs(judge(book, program, claim, told), True)
            self.has_form_of_paper(told)
        else:
            self.assertEqual(word, "broken")
            self.assertIs(type(told), tuple)
            self.assertIs(breaks(book, program, claim, told), True)
            if wanted is not None:
                self.assertEqual(told, wanted)
            else:
                self.assertGreater(sum(map(len, told)), total)
        self.assertEqual((program.picture(), claim.picture()), before)
        return word, told

    def has_form_of_paper(self, paper):
        self.assertIs(type(paper), tuple)
        for place in paper:
            self.assertIs(type(place), tuple)
            for demand in place:
                self.assertIs(type(demand), tuple)
                for triple in demand:
                    self.assertEqual([type(triple)] + [type(part) for part in triple], [tuple, str, tuple, tuple])
                    self.assertEqual({type(accepting) for accepting in triple[1]}, {bool})
                    self.assertEqual({type(row) for row in triple[2]}, {tuple})
                    self.assertEqual({type(state) for row in triple[2] for state in row}, {int})

    def holds(self, notation, inputs, output, refusals=True, book=BOOK):
        self.assertEqual(self.decided(book, read_program(notation), Claim(inputs, output, refusals))[0], "holds")

    def broken(self, notation, inputs, output, wanted, refusals=True, book=BOOK):
        claim = Claim(inputs, output, refusals)
        self.assertEqual(self.decided(book, read_program(notation), claim), ("broken", wanted))


class DecideTest(ClaimsTest):
    def test_no_lines(self):
        self.holds("x: give x", ["some"], "some")
        self.broken("x: give x", ["all"], "some", ("b",))
        self.broken("x: give x", ["all"], "some", ("b",), book=TURNED)
        self.holds("x, y: give y", ["all", "even"], "even")
        self.broken("x, y: give y", ["odd", "even"], "some", ("a", "ab"))
        self.broken("x, y: give y", ["odd", "even"], "some", ("b", "bb"), book=TURNED)

    def test_patterns_without_texts_and_with_all_texts(self):
        self.holds("x: give x", ["nothing"], "nothing")
        self.holds("x: y = x 'a'; need y in long; give y", ["nothing"], "nothing", False)
        self.holds("x, y: z = x y; give z", ["all", "nothing"], "nothing", False)
        self.holds("x: y = rewrite few x; give y", ["all"], "all")
        self.broken("x: y = x x; give y", ["all"], "nothing", ("",))
        self.broken("x: y = x x; need y in long; give y", ["all"], "nothing", ("a",))
        self.holds("x: need x in nothing; give x", ["all"], "nothing")
        self.holds("x: y = rewrite never x; give y", ["all"], "nothing")
        self.broken("x: y = rewrite never x; give y", ["long"], "all", ("aa",), False)

    def test_joins(self):
        self.broken("x: y = 'ab'; give y", ["long"], "some", ("aa",))
        self.holds("x: y = 'ab'; give y", ["long"], "pairs")
        self.broken("x: y = x 'b'; give y", ["all"], "hasab", ("",))
        self.holds("x: y = 'a' x 'b'; give y", ["all"], "hasab")
        self.broken("x: y = 'a' x 'a'; give y", ["all"], "noaa", ("",))
        self.broken("x: y = 'a' x 'a'; give y", ["long"], "noaa", ("aa",))
        self.broken("x, y: z = x y; give z", ["noaa", "noaa"], "noaa", ("a", "a"))
        self.broken("x, y: z = x 'b' y 'b'; give z", ["noaa", "all"], "noaa", ("", "aa"))
        self.holds("x, y: z = x 'b' y 'b'; give z", ["noaa", "noaa"], "noaa")
        self.holds("x, y, z: w = x y z; give w", ["odd", "even", "odd"], "even")
        self.broken("x, y, z: w = x y z; give w", ["odd", "all", "odd"], "even", ("a", "a", "a"))
        self.broken("x, y, z: w = x y z; give w", ["odd", "all", "odd"], "even", ("b", "b", "b"), book=TURNED)

    def test_joins_of_one_name_several_times(self):
        self.holds("x: y = x x; give y", ["all"], "even")
        self.broken("x: y = x x x; give y", ["all"], "even", ("a",))
        self.holds("x: y = x x x; give y", ["all"], "three")
        self.broken("x: y = x x; give y", ["noaa"], "noaa", ("a",))
        self.broken("x: y = x 'b' x; give y", ["all"], "noaa", ("aa",))
        self.holds("x, y: z = x y x y; give z", ["odd", "all"], "even")
        self.broken("x: y = x x x x x x; give y", ["all"], "noaa", ("a",))
        self.holds("x: y = x x x x x x; give y", ["pairs"], "pairs")

    def test_turns(self):
        self.holds("x: y = turn x; give y", ["noaa"], "noaa")
        self.broken("x: y = turn x; give y", ["endb"], "endb", ("ab",))
        self.broken("x: y = turn x; give y", ["pairs"], "pairs", ("ab",))

    def test_rewrites(self):
        self.holds("x: y = rewrite more x; give y", ["some"], "some")
        self.broken("x: y = rewrite more x; give y", ["all"], "even", ("b",))
        self.broken("x: y = rewrite few x; give y", ["all"], "short", ("aaa",))
        self.broken("x: y = rewrite few x; give y", ["all"], "all", ("bb",), False)
        self.holds("x: y = rewrite few x; give y", ["some"], "some", False)
        # Also when the text is read nowhere.
        self.broken("x: y = rewrite few x; give x", ["endb"], "endb", ("bb",), False)
        self.holds("x: y = rewrite few x; give x", ["endb"], "endb")
        self.holds("x: y = rewrite never x; give x", ["all"], "nothing")

    def test_needs(self):
        self.holds("x: need x in some; give x", ["all"], "some")
        self.broken("x: need x in some; give x", ["all"], "some", ("b",), False)
        self.holds("x: need x in all; give x", ["some"], "some", False)
        self.broken("x: need x in long; need x in even; give x", ["all"], "short", ("aaaa",))
        self.broken("x: need x in long; need x in even; give x", ["all"], "short", ("",), False)
        self.broken("x, y: need y in some; z = x y; need z in long; give x", ["some", "even"], "all", ("", ""), False)
        self.broken("x, y: need y in some; z = x y; need z in long; give x", ["long", "even"], "all", ("aa", "ab"), False)

    def test_chooses(self):
        self.holds("x, y: z = if x in some then x else y; give z", ["all", "some"], "some")
        self.broken("x, y: z = if x in some then y else x; give z", ["all", "some"], "some", ("b", ""))
        self.broken("x, y: z = if x in endb then x else y; give z", ["all", "all"], "endb", ("", ""))
        self.holds("x, y, z: w = if x in even then y else z; give w", ["odd", "all", "some"], "some")
        self.broken("x, y, z: w = if x in even then y else z; give w", ["odd", "all", "noaa"], "some", ("a", "", "b"))
        self.broken("x: y = if x in some then x else x; give y", ["all"], "short", ("aaa",))

    def test_claims_that_always_hold(self):
        for name in NOTATIONS:
            self.holds("x: y = turn x; z = turn y; give z", [name], name, False)
            self.holds("x: y = x x; give y", [name], "even", False)
            self.holds("x: need x in " + name + "; give x", ["all"], name)
            self.holds("x, y: z = if x in " + name + " then x else y; give z", ["all", name], name, False)
            self.holds("x: y = x; give y", [name], name, False)
        for name in RECIPES:
            self.holds("x: y = rewrite " + name + " x; give y", ["all"], "all")
        book = book_of("ab", {"all": ".*", "noab": "!(.*ab.*)"}, {"cut": "replace ab by b", "head": "before ab"})
        # Where the word may come up again from what was written, it may stand there.
        self.broken("x: y = rewrite cut x; give y", ["all"], "noab", ("aab",), book=book)
        self.holds("x: y = rewrite head x; give y", ["all"], "noab", False, book=book)
        other = book_of("abc", {"all": ".*", "noab": "!(.*ab.*)"}, {"cut": "replace ab by c"})
        self.holds("x: y = rewrite cut x; give y", ["all"], "noab", False, book=other)

    def test_several_lines(self):
        self.holds("x, y: a = rewrite swap x; b = a y; c = turn b; d = turn c; need d in even; give d", ["odd", "all"], "even")
        self.holds("x: a = x x; b = a a; c = b 'ab'; d = if c in even then c else x; give d", ["all"], "endb")
        self.broken("x: a = x x; b = turn a; need b in hasab; c = rewrite noab b; give c", ["all"], "nothing", ("ab",))
        self.holds("x, y: a = rewrite head x; b = rewrite head y; c = a b; need c in noaa; give c", ["all", "all"], "noaa")
        self.broken("x, y: a = rewrite head x; b = rewrite head y; c = a 'b' b; need a in long; give c",
                    ["hasab", "hasab"], "noaa", ("aaab", "ab"))

    def test_random_programs(self):
        rng = seeded(150)
        told = {"holds": 0, "broken": 0}
        for book in (BOOK, TURNED):
            for _ in range(150):
                program = random_program(rng, rng.randint(0, 6), NOTATIONS, RECIPES)
                claim = Claim([rng.choice(sorted(NOTATIONS)) for _ in program.inputs], rng.choice(sorted(NOTATIONS)),
                              rng.random() < 0.7)
                told[self.decided(book, program, claim)[0]] += 1
        self.assertGreater(min(told.values()), 60)

    def test_random_rewriters_over_other_alphabets(self):
        rng = seeded(151)
        told = {"holds": 0, "broken": 0}
        for letters, notations in (("a", {"all": "a*", "even": "(aa)*", "few": "a?"}),
                                   ("cab", {"all": ".*", "noca": "!(.*ca.*)", "some": "[ab]*", "even": "(..)*"})):
            for _ in range(40):
                rewriters = {name: random_rewriter(rng, letters, rng.randint(1, 3), 0.2, 2) for name in ("one", "two")}
                book = Book(letters, {name: read_pattern(letters, notations[name]) for name in notations}, rewriters)
                program = random_program(rng, rng.randint(1, 4), notations, rewriters, 2)
                lines = [(line[0], line[1], tuple(part for part in line[2] if part[0] == "name" or part[1] in ("", "a"))
                          or (("text", "a"),)) if line[0] == "join" else line for line in program.lines]
                program = Program(program.inputs, lines, program.result)
                claim = Claim([rng.choice(sorted(notations)) for _ in program.inputs], rng.choice(sorted(notations)),
                              rng.random() < 0.7)
                told[self.decided(book, program, claim)[0]] += 1
        self.assertGreater(min(told.values()), 15)

    def test_three_inputs_in_order(self):
        # The sum of the lengths counts first, then the first input, and so on.
        for book, wanted in ((BOOK, ("", "ab", "")), (TURNED, ("", "ba", ""))):
            self.broken("x, y, z: w = x 'b' y 'b' z 'b'; u = turn w; give u", ["all", "all", "all"], "some", ("", "", ""), book=book)
            patterns = {"all": ".*", "good": "!(.*ab.*|.*ba.*)"}
            some = book_of(book.letters, patterns, {})
            self.broken("x, y, z: w = x y z; give w", ["all", "all", "all"], "good", ("", "", wanted[1]), book=some)
            first = {"two": "..|...", "one": ".", "good": "!(.*a.*b.*)"}
            self.broken("x, y: w = x y; give w", ["one", "two"], "good", ("a", "ab") if book is BOOK else ("b", "ab"),
                        book=book_of(book.letters, first, {}))

    def test_least_inputs_of_several_tuples(self):
        book = book_of("ab", {"all": ".*", "long": ".{3,3}", "good": "[]", "a": "a.*", "b": "b.*"}, {})
        notation = "x, y: need x in a; need y in b; give x"
        self.broken(notation, ["all", "all"], "good", ("a", "b"), book=book)
        self.broken(notation, ["all", "all"], "good", ("", ""), False, book=book)
        self.broken(notation, ["long", "all"], "all", ("aaa", ""), False, book=book)
        self.broken(notation, ["long", "b"], "all", ("baa", "b"), False, book=book)

    def test_the_book_may_have_other_things(self):
        more = Book("ab", {**{name: read_pattern("ab", NOTATIONS[name]) for name in NOTATIONS}, "zz": ("none",), "aa": ("empty",)},
                    {**{name: read_recipe("ab", RECIPES[name]) for name in RECIPES}, "aa": read_recipe("ab", "only []")})
        rng = seeded(152)
        for _ in range(30):
            program = random_program(rng, 4, NOTATIONS, RECIPES)
            claim = Claim([rng.choice(sorted(NOTATIONS)) for _ in program.inputs], "noaa", rng.random() < 0.5)
            self.assertEqual(decide(more, program, claim), decide(BOOK, program, claim))
            self.assertEqual(decide(book_of("ab"), program, claim), decide(BOOK, program, claim))

    def test_twelve_lines(self):
        turns = " ".join(f"{'abcdefghijkl'[index]} = turn {'xabcdefghijk'[index]};" for index in range(12))
        self.holds("x: " + turns + " give l", ["endb"], "endb", False)
        self.broken("x: " + turns + " give k", ["endb"], "endb", ("ab",))
        joins = " ".join(f"{'abcdefghijkl'[index]} = {'xabcdefghijk'[index]} 'a' {'xabcdefghijk'[index]};" for index in range(12))
        self.holds("x: " + joins + " give l", ["all"], "odd", False)

    def test_the_example(self):
        patterns = {"any": read_pattern("ab", ".*"), "odd": read_pattern("ab", ".(..)*")}
        book = Book("ab", patterns, {"more": read_recipe("ab", "letters a>aa")})
        self.assertEqual(decide(book, read_program("x: y = rewrite more x; z = x y; give z"), Claim(["any"], "odd")),
                         ("broken", ("",)))


class BreakingTest(ClaimsTest):
    def agree(self, book, program, claim):
        """The tuples take exactly the inputs that break the claim, and each of their machines accepts some text."""
        lots = breaking(book, program, claim)
        self.assertIs(type(lots), list)
        for lot in lots:
            self.assertIs(type(lot), tuple)
            self.assertEqual(len(lot), len(program.inputs))
            for machine in lot:
                self.assertIs(type(machine), Machine)
                self.assertEqual(machine.letters, book.letters)
                self.assertFalse(is_empty(machine))
        for inputs in inputs_up_to(book.letters, len(program.inputs), {1: 6, 2: 4, 3: 3}[len(program.inputs)]):
            told = any(all(machine.accepts(text) for machine, text in zip(lot, inputs)) for lot in lots)
            self.assertIs(told, breaks(book, program, claim, inputs), inputs)
        self.assertEqual(lots == [], decide(book, program, claim)[0] == "holds")
        self.assertEqual([[machine.picture() for machine in lot] for lot in breaking(book, program, claim)],
                         [[machine.picture() for machine in lot] for lot in lots])
        return lots

    def test_random_programs(self):
        rng = seeded(160)
        broken = 0
        for book in (BOOK, TURNED):
            for _ in range(150):
                program = random_program(rng, rng.randint(0, 6), NOTATIONS, RECIPES)
                claim = Claim([rng.choice(sorted(NOTATIONS)) for _ in program.inputs], rng.choice(sorted(NOTATIONS)),
                              rng.random() < 0.6)
                broken += self.agree(book, program, claim) != []
        self.assertGreater(broken, 100)

    def test_each_kind_of_line(self):
        for notation in ("x, y: give y", "x, y: z = x 'a' y; give z", "x, y: z = x y x; give z", "x, y: z = turn x; give z",
                         "x, y: z = rewrite few x; give z", "x, y: z = if x in endb then y else x; give z",
                         "x, y: need x in endb; give y", "x, y: z = 'ab'; give z"):
            for names in (["all", "noaa"], ["some", "endb"], ["nothing", "all"], ["all", "all"]):
                for output in ("noaa", "even", "nothing", "all"):
                    for refusals in (True, False):
                        self.agree(BOOK, read_program(notation), Claim(names, output, refusals))

    def test_demands_are_put_together(self):
        # Each join asks for one demand of each choice of states, but here they differ in one name alone.
        for notation in ("x: y = x x; give y", "x: y = x x x; give y", "x: y = x x; z = y y; w = z z; v = w w; give v",
                         "x: y = turn x; z = x y x; w = if z in endb then z else y; give w"):
            for output in ("noaa", "endb", "nothing", "hasab"):
                self.assertEqual(len(breaking(BOOK, read_program(notation), Claim(["all"], output))), 1)

    def test_a_returned_list_that_is_changed_later(self):
        program, claim = read_program("x: give x"), Claim(["all"], "some")
        breaking(BOOK, program, claim).clear()
        self.assertEqual(len(breaking(BOOK, program, claim)), 1)

    def test_the_machine_for_one_input(self):
        rng = seeded(161)
        texts = texts_up_to("ab", 7)
        for _ in range(150):
            program = random_program(rng, rng.randint(0, 5), NOTATIONS, RECIPES, 1)
            claim = Claim([rng.choice(sorted(NOTATIONS))], rng.choice(sorted(NOTATIONS)), rng.random() < 0.6)
            machine = breaking_machine(BOOK, program, claim)
            self.assertIs(type(machine), Machine)
            self.assertEqual([machine.accepts(text) for text in texts],
                             [breaks(BOOK, program, claim, [text]) for text in texts])
            if len(machine.accepting) < 20:
                self.assertTrue(is_least(machine))

    def test_machines_of_claims(self):
        self.assertEqual(breaking_machine(BOOK, read_program("x: give x"), Claim(["all"], "all")).picture(),
                         ("ab", (False,), ((0, 0),)))
        self.assertEqual(breaking_machine(BOOK, read_program("x: give x"), Claim(["all"], "nothing")).picture(),
                         ("ab", (True,), ((0, 0),)))
        self.assertEqual(breaking_machine(BOOK, read_program("x: need x in some; give x"), Claim(["all"], "all", False)).picture(),
                         ("ab", (False, True), ((0, 1), (1, 1))))
        self.assertEqual(breaking_machine(TURNED, read_program("x: y = x 'a'; give y"), Claim(["odd"], "some")).picture(),
                         ("ba", (False, True, False, False), ((1, 2), (3, 3), (3, 0), (1, 1))))


class ErrorsTest(unittest.TestCase):
    def test_the_errors(self):
        program = read_program("x: give x")
        for call in (decide, breaking, breaking_machine):
            self.assertEqual(reason(call, BOOK, Program([], [], "x"), Claim([], "all")), (TooMany, "inputs"))
            self.assertEqual(reason(call, BOOK, read_program("x: give y"), Claim([], "none")), (UnknownName, "y"))
            self.assertEqual(reason(call, BOOK, program, Claim([], "none")), (WrongCount, 0))
            self.assertEqual(reason(call, BOOK, program, Claim(["all", "all"], "all")), (WrongCount, 2))
            self.assertEqual(reason(call, BOOK, program, Claim(["none"], "never")), (UnknownName, "none"))
            self.assertEqual(reason(call, BOOK, program, Claim(["all"], "never")), (UnknownName, "never"))


class OrderTest(unittest.TestCase):
    def test_the_order_of_inputs(self):
        # What the tests take for the order of point 6.2.
        found = inputs_up_to("ba", 2, 2)
        self.assertEqual(found[:6], [("", ""), ("", "b"), ("", "a"), ("b", ""), ("a", ""), ("", "bb")])
        self.assertEqual(found[-1], ("aa", ""))
        self.assertLess(order_key("ba", "a"), order_key("ba", "bb"))


if __name__ == "__main__":
    unittest.main()
