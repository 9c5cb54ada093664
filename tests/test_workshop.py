"""Points 7.1 to 7.5: workshops."""

import unittest

from anytext.claims.claim import Claim, check_claim
from anytext.claims.decide import decide
from anytext.errors import (BadAlphabet, BadLine, BadName, BadPattern, BadRecipe, BadText, InUse, NameTaken, NothingLeft,
                            TooLarge, TooMany, UnknownName, WorkshopError, WrongCount)
from anytext.patterns.reader import read_pattern
from anytext.programs.book import Book, is_name
from anytext.programs.program import check_program
from anytext.programs.reader import read_program
from anytext.rewriters.recipes import read_recipe
from anytext.workshop.workshop import Workshop
from helpers import reason, seeded

KINDS = ("pattern", "recipe", "program", "claim")


def setter(shop, kind):
    """The method that sets a thing of this kind."""
    return {"pattern": shop.set_pattern, "recipe": shop.set_recipe, "program": shop.set_program, "claim": shop.set_claim}[kind]


def filled():
    """A workshop with things of each kind."""
    shop = Workshop("ab")
    shop.set_pattern("good", "a*")
    shop.set_pattern("all", ".*")
    shop.set_pattern("even", "(..)*")
    shop.set_recipe("more", "letters a>aa")
    shop.set_recipe("swap", "letters a>b b>a")
    shop.set_program("twice", "x: y = x x; give y")
    shop.set_program("check", "x, y: need x in good; z = rewrite more x; give z")
    shop.set_claim("evens", "twice", ["all"], "even")
    shop.set_claim("goods", "check", ["all", "even"], "good")
    return shop


class ThingsTest(unittest.TestCase):
    def test_an_empty_workshop(self):
        shop = Workshop("ab")
        self.assertEqual([shop.names(kind) for kind in KINDS], [[], [], [], []])
        self.assertEqual((shop.picture(), shop.unanswered()), ((), []))

    def test_alphabets(self):
        for letters in ("", "aa", "abcdefghi", "a-", "a b"):
            self.assertEqual(reason(Workshop, letters), (BadAlphabet, letters))
        shop = Workshop("b<a")
        shop.set_pattern("p", "[^b]")
        shop.set_program("q", "x: give x")
        shop.set_claim("c", "q", ["p"], "p")
        shop.set_claim("d", "q", ["p"], "p", False)
        shop.set_pattern("r", "b")
        shop.set_claim("e", "q", ["p"], "r")
        self.assertEqual(shop.answer("e"), ("broken", ("<",)))

    def test_names_meanings_and_picture(self):
        shop = filled()
        self.assertEqual([shop.names(kind) for kind in KINDS],
                         [["all", "even", "good"], ["more", "swap"], ["check", "twice"], ["evens", "goods"]])
        self.assertEqual(shop.meaning("pattern", "good"), "a*")
        self.assertEqual(shop.meaning("recipe", "more"), "letters a>aa")
        self.assertEqual(shop.meaning("program", "twice"), "x: y = x x; give y")
        self.assertEqual(shop.meaning("claim", "goods"), ("check", ("all", "even"), "good", True))
        self.assertEqual(shop.picture(), (
            (("claim", "evens"), ("twice", ("all",), "even", True)),
            (("claim", "goods"), ("check", ("all", "even"), "good", True)),
            (("pattern", "all"), ".*"), (("pattern", "even"), "(..)*"), (("pattern", "good"), "a*"),
            (("program", "check"), "x, y: need x in good; z = rewrite more x; give z"),
            (("program", "twice"), "x: y = x x; give y"),
            (("recipe", "more"), "letters a>aa"), (("recipe", "swap"), "letters a>b b>a")))

    def test_notations_are_kept_just_as_they_are(self):
        shop = Workshop("ab")
        shop.set_pattern("p", "((a)|[bb])")
        shop.set_recipe("p", "only  then letters")
        shop.set_program("p", "x  :y=x;   give   y ")
        shop.set_claim("p", "p", ("p",), "p", refusals=False)
        self.assertEqual([shop.meaning(kind, "p") for kind in KINDS],
                         ["((a)|[bb])", "only  then letters", "x  :y=x;   give   y ", ("p", ("p",), "p", False)])

    def test_setting_again(self):
        shop = filled()
        shop.set_pattern("good", "b")
        shop.set_recipe("more", "letters")
        shop.set_program("twice", "z: give z")
        shop.set_claim("evens", "twice", ["good"], "good", False)
        self.assertEqual([shop.meaning(*key) for key in (("pattern", "good"), ("recipe", "more"), ("program", "twice"), ("claim", "evens"))],
                         ["b", "letters", "z: give z", ("twice", ("good",), "good", False)])
        self.assertEqual(len(shop.picture()), 9)

    def test_things_of_different_kinds_with_one_name(self):
        shop = Workshop("ab")
        shop.set_pattern("x", "a*")
        shop.set_recipe("x", "only a*")
        shop.set_program("x", "x: need x in x; y = rewrite x x; give y")
        shop.set_claim("x", "x", ["x"], "x", False)
        self.assertEqual(shop.answer("x")[0], "holds")
        self.assertEqual([shop.names(kind) for kind in KINDS], [["x"]] * 4)
        shop.drop("claim", "x")
        self.assertEqual([shop.names(kind) for kind in KINDS], [["x"]] * 3 + [[]])
        self.assertEqual(reason(shop.meaning, "claim", "x"), (UnknownName, "x"))
        self.assertEqual(shop.meaning("pattern", "x"), "a*")

    def test_unknown_names(self):
        shop = filled()
        for kind in KINDS:
            for name in ("none", "x", "", "Good"):
                self.assertEqual(reason(shop.meaning, kind, name), (UnknownName, name))
                self.assertEqual(reason(shop.drop, kind, name), (UnknownName, name))
        for kind, name in (("recipe", "good"), ("pattern", "more"), ("claim", "twice"), ("program", "evens")):
            self.assertEqual(reason(shop.meaning, kind, name), (UnknownName, name))
            self.assertEqual(reason(shop.drop, kind, name), (UnknownName, name))
        for name in ("none", "twice", "good", ""):
            self.assertEqual(reason(shop.answer, name), (UnknownName, name))

    def test_lists_that_are_changed_later(self):
        shop = filled()
        wanted = ["all"]
        shop.set_claim("new", "twice", wanted, "even")
        wanted[0] = "good"
        wanted.append("all")
        self.assertEqual(shop.meaning("claim", "new"), ("twice", ("all",), "even", True))
        shop.names("pattern").append("other")
        shop.unanswered().clear()
        self.assertEqual(shop.names("pattern"), ["all", "even", "good"])
        self.assertEqual(shop.unanswered(), ["evens", "goods", "new"])

    def test_two_workshops_side_by_side(self):
        one, other = filled(), filled()
        one.set_pattern("good", "b")
        one.answer("evens")
        self.assertEqual((one.meaning("pattern", "good"), other.meaning("pattern", "good")), ("b", "a*"))
        self.assertEqual((one.unanswered(), other.unanswered()), (["goods"], ["evens", "goods"]))
        other.undo()
        self.assertEqual((one.names("claim"), other.names("claim")), (["evens", "goods"], ["evens"]))
        self.assertEqual(one.names("recipe"), ["more", "swap"])

    def test_the_example(self):
        shop = Workshop("ab")
        shop.set_pattern("good", "a*")
        shop.set_program("twice", "x: y = x x; give y")
        shop.set_claim("even", "twice", ["good"], "good")
        self.assertEqual(shop.unanswered(), ["even"])
        self.assertEqual(shop.answer("even")[0], "holds")
        self.assertEqual(reason(shop.drop, "pattern", "good"), (InUse, ("claim", "even")))


class ErrorsTest(unittest.TestCase):
    def refused(self, error, method, *arguments):
        """The call raises the error, and nothing changes: neither the things nor what can be undone and done again."""
        shop = filled()
        shop.set_pattern("last", "a")
        shop.set_pattern("last", "b")
        shop.answer("evens")
        shop.undo()
        before = shop.picture()
        self.assertEqual(reason(getattr(shop, method), *arguments), error, arguments)
        self.assertEqual((shop.picture(), shop.unanswered()), (before, ["goods"]))
        shop.redo()
        self.assertEqual(shop.meaning("pattern", "last"), "b")
        shop.undo()
        shop.undo()
        self.assertEqual(shop.picture(), filled().picture())

    def test_bad_names(self):
        for name in ("", "A", "abcdefghi", "turn", "in", "a1", "a b"):
            self.refused((BadName, name), "set_pattern", name, "(")
            self.refused((BadName, name), "set_recipe", name, "none")
            self.refused((BadName, name), "set_program", name, "")
            self.refused((BadName, name), "set_claim", name, "none", [], "none")

    def test_patterns(self):
        self.refused((BadPattern, 1), "set_pattern", "new", "(")
        self.refused((BadPattern, 0), "set_pattern", "good", "c")
        self.refused((TooLarge, 400), "set_pattern", "good", "a" * 401)
        self.refused((TooLarge, 100), "set_pattern", "new", "a" * 60)

    def test_recipes(self):
        self.refused((BadRecipe, 1), "set_recipe", "new", "before c")
        self.refused((BadRecipe, 0), "set_recipe", "more", "")
        self.refused((BadPattern, 0), "set_recipe", "more", "only c")
        self.refused((TooLarge, 12), "set_recipe", "new", "only " + "(" * 13)

    def test_programs(self):
        self.refused((BadLine, 0), "set_program", "new", "")
        self.refused((BadLine, 8), "set_program", "twice", "x: give 1")
        self.refused((TooLarge, 1000), "set_program", "new", "x: give x" + " " * 992)
        self.refused((TooMany, "inputs"), "set_program", "new", "x, y, z, w: give x")
        self.refused((NameTaken, "x"), "set_program", "new", "x, x: give x")
        self.refused((UnknownName, "y"), "set_program", "twice", "x: give y")
        self.refused((UnknownName, "none"), "set_program", "new", "x: need x in none; give x")
        self.refused((UnknownName, "more"), "set_program", "new", "x: need x in more; give x")
        self.refused((UnknownName, "good"), "set_program", "new", "x: y = rewrite good x; give y")
        self.refused((UnknownName, "none"), "set_program", "new", "x: y = if x in none then x else x; give y")
        self.refused((BadText, "c"), "set_program", "new", "x: y = 'c'; give y")
        self.refused((BadName, "abcdefghi"), "set_program", "new", "abcdefghi: give abcdefghi")

    def test_claims(self):
        self.refused((UnknownName, "none"), "set_claim", "new", "none", ["no"], "not")
        self.refused((UnknownName, "good"), "set_claim", "new", "good", ["good"], "good")
        self.refused((WrongCount, 0), "set_claim", "new", "twice", [], "none")
        self.refused((WrongCount, 1), "set_claim", "goods", "check", ["none"], "none")
        self.refused((WrongCount, 3), "set_claim", "new", "check", ["all", "all", "all"], "good")
        self.refused((UnknownName, "no"), "set_claim", "new", "check", ["all", "no"], "not")
        self.refused((UnknownName, "more"), "set_claim", "evens", "twice", ["all"], "more")

    def test_things_that_others_need_and_that_would_no_longer_fit(self):
        self.refused((WrongCount, 1), "set_program", "twice", "x, y: give x")
        self.refused((WrongCount, 2), "set_program", "check", "x: give x")
        shop = filled()
        shop.set_claim("also", "twice", ["good"], "good")
        shop.set_claim("beside", "check", ["all", "all"], "good")
        self.assertEqual(reason(shop.set_program, "twice", "x, y, z: give x"), (WrongCount, 1))
        self.assertEqual(reason(shop.set_program, "check", "x, y, z: give x"), (WrongCount, 2))
        # The error of the program itself comes first.
        self.assertEqual(reason(shop.set_program, "twice", "x, y, z: give w"), (UnknownName, "w"))
        shop.drop("claim", "evens")
        self.assertEqual(reason(shop.set_program, "twice", "x, y, z: give x"), (WrongCount, 1))
        shop.drop("claim", "also")
        shop.set_program("twice", "x, y, z: give x")

    def test_the_families(self):
        shop = filled()
        with self.assertRaises(WorkshopError):
            shop.drop("pattern", "good")
        with self.assertRaises(WorkshopError):
            shop.redo()


class DropTest(unittest.TestCase):
    def test_in_use(self):
        shop = filled()
        for kind, name, needing in (("pattern", "good", ("claim", "goods")), ("pattern", "all", ("claim", "evens")),
                                    ("pattern", "even", ("claim", "evens")), ("recipe", "more", ("program", "check")),
                                    ("program", "twice", ("claim", "evens")), ("program", "check", ("claim", "goods"))):
            before = shop.picture()
            self.assertEqual(reason(shop.drop, kind, name), (InUse, needing))
            self.assertEqual(shop.picture(), before)
        shop.drop("recipe", "swap")
        self.assertEqual(shop.names("recipe"), ["more"])

    def test_the_first_thing_that_needs_it(self):
        shop = filled()
        shop.set_program("again", "x: y = rewrite more x; need y in even; give y")
        self.assertEqual(reason(shop.drop, "recipe", "more"), (InUse, ("program", "again")))
        shop.set_claim("a", "check", ["all", "all"], "even")
        self.assertEqual(reason(shop.drop, "program", "check"), (InUse, ("claim", "a")))
        self.assertEqual(reason(shop.drop, "pattern", "even"), (InUse, ("claim", "a")))
        for name in ("a", "evens", "goods"):
            shop.drop("claim", name)
        # Kinds come in the order of strings: programs behind claims.
        self.assertEqual(reason(shop.drop, "pattern", "even"), (InUse, ("program", "again")))
        self.assertEqual(reason(shop.drop, "pattern", "good"), (InUse, ("program", "check")))
        shop.drop("pattern", "all")
        shop.drop("program", "check")
        shop.drop("pattern", "good")
        self.assertEqual(reason(shop.drop, "recipe", "more"), (InUse, ("program", "again")))
        shop.drop("program", "again")
        shop.drop("recipe", "more")
        self.assertEqual([shop.names(kind) for kind in KINDS], [["even"], ["swap"], ["twice"], []])

    def test_what_the_program_needs_the_claim_does_not(self):
        shop = Workshop("ab")
        shop.set_pattern("p", "a*")
        shop.set_pattern("q", "b*")
        shop.set_program("prog", "x: need x in p; y = if x in p then x else x; give y")
        shop.set_claim("c", "prog", ["q"], "q")
        self.assertEqual(reason(shop.drop, "pattern", "p"), (InUse, ("program", "prog")))
        self.assertEqual(reason(shop.drop, "pattern", "q"), (InUse, ("claim", "c")))

    def test_only_of_its_kind(self):
        shop = Workshop("ab")
        shop.set_pattern("x", "a*")
        shop.set_recipe("x", "letters")
        shop.set_program("a", "x: need x in x; give x")
        shop.drop("recipe", "x")
        self.assertEqual(reason(shop.drop, "pattern", "x"), (InUse, ("program", "a")))
        shop.set_recipe("x", "letters")
        shop.set_program("a", "x: y = rewrite x x; give x")
        shop.drop("pattern", "x")
        self.assertEqual(reason(shop.drop, "recipe", "x"), (InUse, ("program", "a")))

    def test_needs_that_no_longer_are(self):
        shop = filled()
        shop.set_program("check", "x, y: give x")
        shop.drop("recipe", "more")
        shop.set_claim("goods", "check", ["all", "even"], "all")
        shop.drop("pattern", "good")
        self.assertEqual(shop.names("pattern"), ["all", "even"])


class UndoTest(unittest.TestCase):
    def test_both_ends(self):
        shop = Workshop("ab")
        self.assertEqual(reason(shop.undo), (NothingLeft, None))
        self.assertEqual(reason(shop.redo), (NothingLeft, None))
        shop = filled()
        pictures = [shop.picture()]
        for _ in range(9):
            self.assertIsNone(shop.undo())
            pictures.append(shop.picture())
        self.assertEqual(len(set(pictures)), 10)
        self.assertEqual(pictures[-1], ())
        self.assertEqual(reason(shop.undo), (NothingLeft, None))
        self.assertEqual(shop.picture(), ())
        for picture in pictures[-2::-1]:
            self.assertIsNone(shop.redo())
            self.assertEqual(shop.picture(), picture)
        self.assertEqual(reason(shop.redo), (NothingLeft, None))
        self.assertEqual(shop.picture(), pictures[0])

    def test_behind_a_new_change(self):
        shop = filled()
        shop.undo()
        shop.undo()
        shop.set_pattern("new", "b")
        self.assertEqual(reason(shop.redo), (NothingLeft, None))
        shop.undo()
        self.assertEqual(shop.names("claim"), [])
        self.assertEqual(shop.names("pattern"), ["all", "even", "good"])
        shop.redo()
        self.assertEqual(shop.names("pattern"), ["all", "even", "good", "new"])
        self.assertEqual(reason(shop.redo), (NothingLeft, None))

    def test_behind_a_failed_change(self):
        shop = filled()
        shop.undo()
        for call, arguments in ((shop.set_pattern, ("new", "(")), (shop.set_claim, ("goods", "none", [], "none")),
                                (shop.drop, ("pattern", "all")), (shop.drop, ("claim", "goods")), (shop.answer, ("goods",)),
                                (shop.set_program, ("twice", "x, y: give x"))):
            self.assertIsNotNone(reason(call, *arguments))
        shop.redo()
        self.assertEqual(shop.names("claim"), ["evens", "goods"])
        self.assertEqual(reason(shop.redo), (NothingLeft, None))

    def test_dropping_is_a_change(self):
        shop = filled()
        shop.drop("claim", "goods")
        shop.undo()
        self.assertEqual(shop.picture(), filled().picture())
        shop.redo()
        self.assertEqual(shop.names("claim"), ["evens"])

    def test_setting_a_thing_to_what_it_is_is_a_change(self):
        shop = filled()
        shop.set_pattern("good", "a*")
        shop.set_claim("goods", "check", ("all", "even"), "good", True)
        before = shop.picture()
        shop.undo()
        shop.undo()
        self.assertEqual(shop.picture(), before)
        shop.redo()
        shop.undo()
        shop.undo()
        self.assertEqual(shop.names("claim"), ["evens"])
        shop.set_pattern("good", "a*")
        self.assertEqual(reason(shop.redo), (NothingLeft, None))

    def test_answering_is_no_change(self):
        shop = filled()
        shop.undo()
        shop.answer("evens")
        shop.redo()
        self.assertEqual(shop.unanswered(), ["goods"])
        shop.answer("goods")
        shop.undo()
        self.assertEqual(shop.names("claim"), ["evens"])


class AnswersTest(unittest.TestCase):
    def test_answers(self):
        shop = filled()
        book = Book("ab", {name: read_pattern("ab", shop.meaning("pattern", name)) for name in shop.names("pattern")},
                    {name: read_recipe("ab", shop.meaning("recipe", name)) for name in shop.names("recipe")})
        for name in ("evens", "goods"):
            program, wanted, output, refusals = shop.meaning("claim", name)
            told = decide(book, read_program(shop.meaning("program", program)), Claim(wanted, output, refusals))
            self.assertEqual(told[0], "holds")
            self.assertEqual(shop.answer(name), told)
            self.assertEqual(shop.answer(name), told)
        shop.set_claim("bad", "check", ["all", "even"], "even", False)
        self.assertEqual(shop.answer("bad"), ("broken", ("b", "")))

    def test_unanswered(self):
        shop = filled()
        self.assertEqual(shop.unanswered(), ["evens", "goods"])
        shop.answer("goods")
        self.assertEqual(shop.unanswered(), ["evens"])
        shop.answer("evens")
        self.assertEqual(shop.unanswered(), [])

    def counts_behind(self, change, wanted):
        """After the change, these claims have no answer that counts; undone, both have one."""
        shop = filled()
        shop.answer("goods")
        shop.answer("evens")
        change(shop)
        self.assertEqual(shop.unanswered(), wanted)
        shop.undo()
        self.assertEqual(shop.unanswered(), [])
        shop.redo()
        self.assertEqual(shop.unanswered(), wanted)

    def test_edits(self):
        self.counts_behind(lambda shop: shop.set_pattern("good", "a*|b"), ["goods"])
        self.counts_behind(lambda shop: shop.set_pattern("good", "(a*)"), ["goods"])
        self.counts_behind(lambda shop: shop.set_pattern("good", "a*"), [])
        self.counts_behind(lambda shop: shop.set_pattern("all", "a"), ["evens", "goods"])
        self.counts_behind(lambda shop: shop.set_pattern("new", "a"), [])
        self.counts_behind(lambda shop: shop.set_recipe("more", "letters"), ["goods"])
        self.counts_behind(lambda shop: shop.set_recipe("swap", "letters"), [])
        self.counts_behind(lambda shop: shop.set_program("twice", "x: y = x x;give y"), ["evens"])
        self.counts_behind(lambda shop: shop.set_program("twice", "x: y = x x; give y"), [])
        self.counts_behind(lambda shop: shop.set_claim("evens", "twice", ["all"], "even", False), ["evens"])
        self.counts_behind(lambda shop: shop.set_claim("evens", "twice", ["even"], "even"), ["evens"])
        self.counts_behind(lambda shop: shop.set_claim("evens", "twice", ("all",), "even", True), [])
        self.counts_behind(lambda shop: shop.set_claim("new", "twice", ["all"], "even"), ["new"])
        self.counts_behind(lambda shop: shop.drop("claim", "goods"), [])

    def test_what_the_program_needs_counts(self):
        # The pattern `good` stands in the program alone.
        shop = filled()
        shop.set_claim("goods", "check", ["all", "even"], "even")
        self.assertEqual(shop.answer("goods")[0], "holds")
        shop.set_pattern("good", ".*")
        self.assertEqual(shop.unanswered(), ["evens", "goods"])
        self.assertEqual(shop.answer("goods"), ("broken", ("b", "")))
        shop.set_recipe("more", "letters a>aa b>bb")
        self.assertEqual(shop.unanswered(), ["evens", "goods"])
        self.assertEqual(shop.answer("goods")[0], "holds")

    def test_the_answer_that_was_told_last_is_kept(self):
        shop = filled()
        first = shop.answer("goods")
        shop.set_pattern("good", "b*")
        self.assertEqual(shop.unanswered(), ["evens", "goods"])
        second = shop.answer("goods")
        self.assertNotEqual(first, second)
        shop.undo()
        # The answer for these meanings was told, too, but not last.
        self.assertEqual(shop.unanswered(), ["evens", "goods"])
        shop.redo()
        self.assertEqual(shop.unanswered(), ["evens"])
        shop.undo()
        self.assertEqual(shop.answer("goods"), first)
        shop.redo()
        self.assertEqual(shop.unanswered(), ["evens", "goods"])

    def test_dropping_and_setting_again(self):
        shop = filled()
        told = shop.answer("evens")
        shop.drop("claim", "evens")
        self.assertEqual(shop.unanswered(), ["goods"])
        self.assertEqual(reason(shop.answer, "evens"), (UnknownName, "evens"))
        shop.drop("program", "twice")
        shop.set_program("twice", "x: y = x x; give y")
        shop.set_claim("evens", "twice", ["good"], "even")
        self.assertEqual(shop.unanswered(), ["evens", "goods"])
        shop.set_claim("evens", "twice", ["all"], "even")
        self.assertEqual(shop.unanswered(), ["goods"])
        self.assertEqual(shop.answer("evens"), told)

    def test_an_answer_under_another_name_does_not_count(self):
        shop = filled()
        shop.answer("evens")
        shop.set_claim("same", "twice", ["all"], "even")
        self.assertEqual(shop.unanswered(), ["goods", "same"])
        self.assertEqual(shop.answer("same"), shop.answer("evens"))

    def test_undone_before_it_is_asked(self):
        shop = filled()
        shop.answer("goods")
        for _ in range(9):
            shop.undo()
        self.assertEqual(shop.unanswered(), [])
        shop.set_pattern("good", "a*")
        shop.set_pattern("all", ".*")
        shop.set_pattern("even", "(..)*")
        shop.set_recipe("more", "letters a>aa")
        shop.set_program("check", "x, y: need x in good; z = rewrite more x; give z")
        shop.set_claim("goods", "check", ["all", "even"], "good")
        self.assertEqual(shop.unanswered(), [])


# The points 7.1 to 7.5, with everything made anew each time.

class PlainShop:
    def __init__(self, letters):
        self.letters, self.states, self.place, self.told = letters, [{}], 0, {}

    def things(self):
        return self.states[self.place]

    def of(self, things, kind):
        return {name: things[key] for key in sorted(things) for name in [key[1]] if key[0] == kind}

    def book(self, things):
        patterns, recipes = self.of(things, "pattern"), self.of(things, "recipe")
        return Book(self.letters, {name: read_pattern(self.letters, patterns[name]) for name in patterns},
                    {name: read_recipe(self.letters, recipes[name]) for name in recipes})

    def check(self, things):
        book, programs, claims = self.book(things), self.of(things, "program"), self.of(things, "claim")
        for name in programs:
            check_program(book, read_program(programs[name]))
        for name in claims:
            program, wanted, output, refusals = claims[name]
            if program not in programs:
                raise UnknownName(program)
            check_claim(book, read_program(programs[program]), Claim(wanted, output, refusals))

    def change(self, things):
        self.states, self.place = self.states[:self.place + 1] + [things], self.place + 1

    def set(self, kind, name, *meaning):
        if not is_name(name):
            raise BadName(name)
        if kind == "claim":
            meaning = ((meaning[0], tuple(meaning[1])) + meaning[2:],)
        things = {**self.things(), (kind, name): meaning[0]}
        self.check(things)
        self.change(things)

    def needs(self, things, key):
        if key[0] == "claim":
            program, wanted, output, _ = things[key]
            return [("program", program)] + [("pattern", name) for name in wanted + (output,)]
        if key[0] != "program":
            return []
        lines = read_program(things[key]).lines
        return [("recipe", line[2]) if line[0] == "rewrite" else ("pattern", line[-1] if line[0] == "need" else line[3])
                for line in lines if line[0] in ("rewrite", "need", "choose")]

    def drop(self, kind, name):
        if (kind, name) not in self.things():
            raise UnknownName(name)
        for key in sorted(self.things()):
            if (kind, name) in self.needs(self.things(), key):
                raise InUse(key)
        self.change({key: self.things()[key] for key in self.things() if key != (kind, name)})

    def undo(self):
        if self.place == 0:
            raise NothingLeft(None)
        self.place -= 1

    def redo(self):
        if self.place + 1 == len(self.states):
            raise NothingLeft(None)
        self.place += 1

    def counting(self, name):
        things = self.things()
        keys = self.needs(things, ("claim", name))
        keys = [("claim", name)] + keys + self.needs(things, keys[0])
        return {key: things[key] for key in keys}

    def answer(self, name):
        if ("claim", name) not in self.things():
            raise UnknownName(name)
        program, wanted, output, refusals = self.things()[("claim", name)]
        self.told[name] = self.counting(name)
        return decide(self.book(self.things()), read_program(self.things()[("program", program)]), Claim(wanted, output, refusals))

    def unanswered(self):
        return [name for name in self.of(self.things(), "claim") if self.told.get(name) != self.counting(name)]


class RandomEditsTest(unittest.TestCase):
    PATTERNS = ("a*", ".*", "(..)*", "!(.*aa.*)", "[]", "(", "c")
    RECIPES = ("letters a>b", "replace ab by ()", "only !(.*bb.*)", "before", "letters a>b a>b")
    PROGRAMS = ("x: give x", "x: need x in p; give x", "x: y = rewrite r x; give y", "x: y = x x; z = turn y; give z",
                "x, y: z = if x in q then y else x; give z", "x, y: z = rewrite p x; need z in r; give y", "x, y: give z", "x:")

    def call(self, rng):
        """A call, as the name of a method and its arguments."""
        name = rng.choice(("p", "q", "r")) if rng.random() < 0.98 else "in"
        what = rng.choice(("pattern", "pattern", "recipe", "program", "program", "claim", "claim", "drop", "undo", "undo", "redo", "answer"))
        if what == "claim":
            names = [rng.choice("pqr") for _ in range(rng.choice((1, 1, 2)))]
            return "set", ("claim", name, rng.choice("pqr"), names, rng.choice("pqr"), rng.random() < 0.5)
        if what in KINDS:
            return "set", (what, name, rng.choice({"pattern": self.PATTERNS, "recipe": self.RECIPES, "program": self.PROGRAMS}[what]))
        return what, {"drop": (rng.choice(KINDS), name), "answer": (name,)}.get(what, ())

    def test_random_edits(self):
        rng = seeded(190)
        errors, answers = set(), 0
        for _ in range(80):
            shop, plain = Workshop("ab"), PlainShop("ab")
            for _ in range(60):
                what, arguments = self.call(rng)
                method = setter(shop, arguments[0]) if what == "set" else getattr(shop, what)
                wanted = reason(getattr(plain, what), *arguments)
                self.assertEqual(reason(method, *(arguments[1:] if what == "set" else arguments)), wanted)
                errors.add(None if wanted is None else wanted[0])
                self.assertEqual(shop.picture(), tuple(sorted(plain.things().items())))
                for kind in KINDS:
                    self.assertEqual(shop.names(kind), list(plain.of(plain.things(), kind)))
                self.assertEqual(shop.unanswered(), plain.unanswered())
            for name in shop.names("claim"):
                self.assertEqual(shop.answer(name), plain.answer(name))
                answers += 1
        self.assertGreater(answers, 20)
        self.assertLessEqual({BadName, BadPattern, BadRecipe, BadLine, UnknownName, WrongCount, InUse, NothingLeft, None}, errors)

    def test_answers_of_random_edits(self):
        rng = seeded(191)
        for _ in range(15):
            shop, plain = Workshop("ab"), PlainShop("ab")
            for name, notation in zip("pqr", ("a*", "(..)*", ".*")):
                shop.set_pattern(name, notation)
                plain.set("pattern", name, notation)
            for _ in range(40):
                what, arguments = self.call(rng)
                method = setter(shop, arguments[0]) if what == "set" else getattr(shop, what)
                self.assertEqual(reason(method, *(arguments[1:] if what == "set" else arguments)),
                                 reason(getattr(plain, what), *arguments))
                for name in shop.names("claim"):
                    if rng.random() < 0.3:
                        self.assertEqual(shop.answer(name), plain.answer(name))
                self.assertEqual(shop.unanswered(), plain.unanswered())


if __name__ == "__main__":
    unittest.main()
