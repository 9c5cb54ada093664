"""Points 6.7 and 6.8: records of answers."""

import unittest

from anytext.claims.claim import Claim
from anytext.claims.decide import decide
from anytext.claims.judge import judge
from anytext.claims.records import read_answer, read_value, write_answer, write_value
from anytext.errors import BadRecord, RecordError
from anytext.letters.alphabet import LETTERS
from anytext.patterns.reader import read_pattern
from anytext.programs.book import Book
from anytext.rewriters.recipes import read_recipe
from helpers import random_program, reason, seeded

NOTATIONS = {"some": "a*", "long": "..+", "nothing": "[]", "all": ".*", "noaa": "!(.*aa.*)", "even": "(..)*"}
RECIPES = {"more": "letters a>aa", "few": "only !(.*bb.*)", "swap": "letters a>b b>a"}
BOOK = Book("ab", {name: read_pattern("ab", NOTATIONS[name]) for name in NOTATIONS},
            {name: read_recipe("ab", RECIPES[name]) for name in RECIPES})

PAIRS = ((True, "T"), (False, "F"), (0, "0"), (1, "1"), (10, "10"), (123456789, "123456789"), (999999999, "999999999"),
         ("", "''"), ("ab", "'ab'"), ("T", "'T'"), ("12", "'12'"), ((), "()"), ((1,), "(1)"), ((1, 2, 30), "(1 2 30)"),
         ((True, False, 1, 0), "(T F 1 0)"), (("", "a"), "('' 'a')"), (((), ((),), ()), "(() (()) ())"),
         ((((((7,),),),),), "(((((7)))))"), ((((((),),),),), "((((()))))"),
         ((1, (2, (3,)), 4), "(1 (2 (3)) 4)"), (LETTERS, "'" + LETTERS + "'"))


def deeply_same(one, other):
    """Whether the values are equal, and of the same kinds."""
    if isinstance(one, tuple) and isinstance(other, tuple):
        return len(one) == len(other) and all(deeply_same(*pair) for pair in zip(one, other))
    return type(one) is type(other) and one == other


def random_value(rng, deep):
    kind = rng.randrange(5 if deep > 0 else 4)
    if kind == 0:
        return rng.choice((0, 1, 7, 10, 99, 100, 999999999, rng.randrange(10 ** 9)))
    if kind == 1:
        return rng.random() < 0.5
    if kind < 4:
        return "".join(rng.choice(LETTERS) for _ in range(rng.randint(0, 4)))
    return tuple(random_value(rng, deep - 1) for _ in range(rng.randint(0, 3)))


class ValuesTest(unittest.TestCase):
    def test_values_of_each_kind(self):
        for value, notation in PAIRS:
            self.assertEqual(write_value(value), notation)
            self.assertTrue(deeply_same(read_value(notation), value), notation)

    def test_random_values(self):
        rng = seeded(180)
        for _ in range(400):
            value = random_value(rng, 8)
            self.assertTrue(deeply_same(read_value(write_value(value)), value))

    def test_truth_values_are_no_integers(self):
        self.assertEqual([write_value(value) for value in (True, 1, False, 0)], ["T", "1", "F", "0"])
        self.assertIs(read_value("T"), True)
        self.assertIs(read_value("F"), False)
        self.assertIs(type(read_value("1")), int)
        self.assertIs(type(read_value("0")), int)

    def test_eight_deep(self):
        notation = "(" * 8 + ")" * 8
        self.assertEqual(write_value(read_value(notation)), notation)
        notation = "((((((((1 2)) 3) (('a'))))) T) ())"
        self.assertEqual(write_value(read_value(notation)), notation)

    def test_the_example(self):
        self.assertEqual(write_value((("x", (True, False), ((1, 0),)), 12)), "(('x' (T F) ((1 0))) 12)")

    def test_100000_characters(self):
        notation = "(" + " ".join(["12345678"] * 11111)
        self.assertEqual(read_value(notation + ")"), (12345678,) * 11111)
        self.assertEqual(write_value((12345678,) * 11111), notation + ")")
        self.assertEqual(reason(read_value, notation), (BadRecord, len(notation)))
        self.assertEqual(read_value("'" + "ab" * 49999 + "'"), "ab" * 49999)
        self.assertEqual(reason(read_value, "'" + "a" * 99999), (BadRecord, 100000))
        self.assertEqual(read_value("(" + "() " * 33332 + "())"), ((),) * 33333)


class FaultsTest(unittest.TestCase):
    def fault(self, notation, place):
        self.assertEqual(reason(read_value, notation), (BadRecord, place), notation)

    def test_signs(self):
        self.fault("-1", 0)
        self.fault("+1", 0)
        self.fault("(1 -1)", 3)

    def test_needless_zeros(self):
        self.fault("00", 1)
        self.fault("01", 1)
        self.fault("(01)", 2)
        self.fault("(1 007)", 4)
        self.assertEqual(read_value("(0 10 0)"), (0, 10, 0))

    def test_ten_digits(self):
        self.fault("1234567890", 9)
        self.fault("(1 1000000000)", 12)
        self.fault("9999999999999", 9)

    def test_characters_that_are_no_letters(self):
        for sign in " -()'!.,+*[]{}|&?/;\"~^`$\\":
            if sign != "'":
                self.fault("'ab" + sign + "c'", 3)
            if sign not in "()'":
                self.fault(sign, 0)
                self.fault("(" + sign, 1)
        self.fault("'a b'", 2)

    def test_other_words(self):
        for notation, place in (("t", 0), ("f", 0), ("a", 0), ("True", 1), ("TT", 1), ("TF", 1), ("None", 0), ("1T", 1), ("T1", 1),
                                ("1a", 1), ("1.0", 1), ("''''", 2), ("()()", 2), ("'a'1", 3), ("1'a'", 1), (")", 0), ("[1]", 0)):
            self.fault(notation, place)

    def test_spaces(self):
        self.fault("(1  2)", 3)
        self.fault("(1 )", 3)
        self.fault("( )", 1)
        self.fault("( 1)", 1)
        self.fault(" 1", 0)
        self.fault("1 ", 1)
        self.fault("() ", 2)
        self.fault("(1,2)", 2)
        self.fault("(() )", 4)
        self.fault("(1(2))", 2)
        self.fault("('a''b')", 4)
        self.fault("(TF)", 2)

    def test_a_ninth_open_bracket(self):
        self.fault("(" * 9, 8)
        self.fault("(" * 9 + ")" * 9, 8)
        self.fault("(" * 8 + "1 (", 10)
        self.fault("(" * 8 + ")" * 7 + " " + "(" * 8, 23)
        self.assertIsNone(reason(read_value, "(" + " ".join(["(" * 7 + ")" * 7] * 3) + ")"))

    def test_more_behind_the_end(self):
        self.fault("1 2", 1)
        self.fault("()(", 2)
        self.fault("'a' ", 3)
        self.fault("T F", 1)
        self.fault("(1))", 3)
        self.fault("0)", 1)

    def test_the_end_too_early(self):
        for notation in ("", "(", "(1", "(1 ", "(12", "((1)", "'", "'ab", "('ab", "('ab'", "((", "(T", "(0", "(1 (2 3) ", "(" * 8):
            self.fault(notation, len(notation))

    def test_the_example(self):
        self.fault("(01)", 2)

    def test_the_family(self):
        with self.assertRaises(RecordError):
            read_value("")


class AnswersTest(unittest.TestCase):
    def test_answers(self):
        machine = ("x", (True, False), ((1, 0), (1, 1)))
        for answer, record in ((("broken", ("ab", "")), "broken ('ab' '')"), (("broken", ()), "broken ()"), (("holds", ()), "holds ()"),
                               (("broken", ("",)), "broken ('')"), (("holds", ((), ())), "holds (() ())"),
                               (("holds", (((),),)), "holds ((()))"),
                               (("holds", (((machine,),), ())), "holds (((('x' (T F) ((1 0) (1 1))))) ())")):
            self.assertEqual(write_answer(answer), record)
            self.assertTrue(deeply_same(read_answer(record), answer))

    def test_answers_that_decide_tells(self):
        rng = seeded(181)
        told = {"holds": 0, "broken": 0}
        for _ in range(150):
            program = random_program(rng, rng.randint(0, 4), NOTATIONS, RECIPES)
            names = [rng.choice(sorted(NOTATIONS)) for _ in program.inputs]
            claim = Claim(names, rng.choice(sorted(NOTATIONS)), rng.random() < 0.7)
            answer = decide(BOOK, program, claim)
            told[answer[0]] += 1
            record = write_answer(answer)
            self.assertTrue(deeply_same(read_answer(record), answer))
            self.assertEqual(write_answer(read_answer(record)), record)
            if answer[0] == "holds":
                self.assertIs(judge(BOOK, program, claim, read_answer(record)[1]), True)
        self.assertGreater(min(told.values()), 40)

    def fault(self, place, *records):
        for record in records:
            self.assertEqual(reason(read_answer, record), (BadRecord, place), record)

    def test_other_words(self):
        self.fault(0, "", " ", "hold ()", "Holds ()", "holds() ()", "brokens ()", " holds ()", "differ ()", "holds()", "(1)",
                   "broken() ()", "HOLDS ()", "holdsbroken ()", "none", "holds;()", "same ((")

    def test_faults_of_the_value(self):
        self.fault(6, "holds", "holds ", "holds  ()", "holds x", "holds )", "holds -1", "holds ,")
        self.fault(7, "broken", "broken ", "broken  ()", "broken x", "broken )", "holds (", "holds (x", "holds ( ")
        self.fault(8, "holds () ", "holds ()()", "holds () ()", "broken (", "holds 12x", "holds ((", "broken 01")
        self.fault(7, "holds 01", "holds 1 ", "holds TF")
        self.fault(12, "broken ('ab'")
        self.fault(12, "broken ('ab'x)", "broken ('ab',)")
        self.fault(14, "holds " + "(" * 9)
        self.fault(15, "holds 1234567890")
        self.fault(16, "broken 1234567890")

    def test_values_of_another_form(self):
        self.fault(None, "holds 1", "holds T", "holds 'a'", "holds (1)", "holds ((1))", "holds (((1)))", "holds ((((1))))",
                   "holds ('a')", "holds (('a'))", "holds ((('a')))", "holds (() T)")
        triple = "('x' (T) ((0 0)))"
        self.assertIsNone(reason(read_answer, "holds (((" + triple + ")))"))
        for other in ("()", "('x')", "('x' (T))", "('x' (T) ((0 0)) ())", "(1 (T) ((0 0)))", "(() (T) ((0 0)))", "(T (T) ((0 0)))",
                      "('x' T ((0 0)))", "('x' (1) ((0 0)))", "('x' ('T') ((0 0)))", "('x' (T ()) ((0 0)))", "('x' (T 0) ((0 0)))",
                      "('x' (T) 0)", "('x' (T) (0 0))", "('x' (T) ((T 0)))", "('x' (T) (('0' 0)))", "('x' (T) ((0 0) 1))",
                      "('x' (T) ((0 ())))", "('x' (T) ((0 F)))", "('x' 'T' ((0 0)))", "('x' (T) 'x')"):
            self.fault(None, "holds (((" + other + ")))", "holds (() ((" + triple + " " + other + ")))")
        self.fault(None, "broken 1", "broken 'a'", "broken T", "broken (1)", "broken ('a' 1)", "broken (())", "broken ('a' T)",
                   "broken (('a'))", "broken (((" + triple + ")))")

    def test_forms_of_any_length(self):
        for record in ("holds ((() (('x' () ()))))", "holds (((('' () ()))))", "holds (((('X1' (T F T) (() (5) (999999999 0))))))",
                       "broken ('a' 'b' 'c' 'd' '')", "holds (() () () (() ()))"):
            self.assertEqual(write_answer(read_answer(record)), record)

    def test_the_fault_of_the_value_comes_first(self):
        self.fault(8, "holds (1")
        self.fault(7, "holds 1 2", "holds T)")
        self.fault(9, "broken (1", "broken ((")

    def test_a_record_of_100000_characters(self):
        row = "(" + " ".join(["1"] * 40000) + ")"
        record = "holds (((('x' (T) (" + row + ")))))"
        answer = read_answer(record)
        self.assertEqual(answer[1][0][0][0][2], ((1,) * 40000,))
        self.assertEqual(write_answer(answer), record)
        self.fault(len(record), record + ")")
        self.fault(len(record) - 1, record[:-1])

    def test_the_example(self):
        self.assertEqual(read_answer("broken ('ab' '')"), ("broken", ("ab", "")))


if __name__ == "__main__":
    unittest.main()
