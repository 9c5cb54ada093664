"""Point 5.4: the notation of programs and its faults."""

import re
import unittest

from anytext.errors import BadLine, ProgramError, SizeError, TooLarge
from anytext.letters.alphabet import LETTERS
from anytext.programs.reader import read_program
from helpers import reason, seeded

# Each token is one character: n a name, q a quoted text, and a letter for each of the words.
WORDS = {"turn": "t", "rewrite": "r", "if": "i", "in": "k", "then": "h", "else": "e", "need": "d", "give": "g"}
PROGRAM = re.compile("n(,n)*:((n=(tn|rnn|inknhnen|[nq]+)|dnkn);)*gn")
PROGRAMS = ("n,n:n=tn;n=rnn;n=inknhnen;n=nqnq;dnkn;gn", "n:gn", "n,n,n:n=qq;n=nn;n=rnn;gn")
ENDS = {program[place:] for program in PROGRAMS for place in range(len(program) + 1)}


def first_wrong_token(row):
    """The index of the first token with which no program goes on, or the number of the tokens, or None."""
    for index in range(len(row)):
        if not any(PROGRAM.fullmatch(row[:index + 1] + end) for end in ENDS):
            return index
    return None if PROGRAM.fullmatch(row) else len(row)


def spelled(rng, row):
    """A notation with these tokens, and their places."""
    text, places = " " * rng.choice((0, 0, 1, 3)), []
    word_before = False
    for sign in row:
        is_word = sign.isalpha() and sign != "q"
        if word_before and is_word:
            text += " "
        places.append(len(text))
        text += token(rng, sign) + " " * rng.choice((0, 0, 0, 1, 2))
        word_before = is_word
    return text, places


def token(rng, sign):
    if sign == "n":
        return rng.choice(("x", "y", "turns", "giv", "i", "verylongnames", "inn"))
    if sign == "q":
        return rng.choice(("''", "'ab'", "'Z_0<>=:@#'", "'turn'"))
    return {letter: word for word, letter in WORDS.items()}.get(sign, sign)


class TermsTest(unittest.TestCase):
    def reads(self, text, inputs, lines, result):
        self.assertEqual(read_program(text).picture(), (inputs, lines, result))

    def line(self, text, line):
        self.reads("x: " + text + "; give x", ("x",), (line,), "x")

    def test_the_document(self):
        self.reads("x, y: z = x 'ab' y; need z in good; give z", ("x", "y"),
                   (("join", "z", (("name", "x"), ("text", "ab"), ("name", "y"))), ("need", "z", "good")), "z")
        with self.assertRaises(BadLine):
            read_program("x: y = turn; give y")

    def test_inputs(self):
        self.reads("x: give x", ("x",), (), "x")
        self.reads("x, y, z, w: give q", ("x", "y", "z", "w"), (), "q")

    def test_each_kind_of_line(self):
        self.line("y = turn x", ("turn", "y", "x"))
        self.line("y = rewrite more x", ("rewrite", "y", "more", "x"))
        self.line("y = if a in b then c else d", ("choose", "y", "a", "b", "c", "d"))
        self.line("need x in good", ("need", "x", "good"))
        self.line("y = x", ("join", "y", (("name", "x"),)))
        self.line("y = ''", ("join", "y", (("text", ""),)))
        self.line("y = 'ab' x x 'b'", ("join", "y", (("text", "ab"), ("name", "x"), ("name", "x"), ("text", "b"))))

    def test_several_lines_in_order(self):
        self.reads("x: y = turn x; need y in z; z = y x; give z", ("x",),
                   (("turn", "y", "x"), ("need", "y", "z"), ("join", "z", (("name", "y"), ("name", "x")))), "z")

    def test_whether_it_is_in_order_is_not_looked_at(self):
        self.reads("toolonganame, x, x: x = p q r s t u v w; need a in b; give nobody", ("toolonganame", "x", "x"),
                   (("join", "x", tuple(("name", name) for name in "pqrstuvw")), ("need", "a", "b")), "nobody")
        many = " y = x;" * 100
        self.assertEqual(len(read_program("x:" + many + " give x").lines), 100)

    def test_quoted_texts(self):
        for text in ("", LETTERS, "turn", "=:<>@#_", "0"):
            self.line(f"y = '{text}'", ("join", "y", (("text", text),)))

    def test_spaces(self):
        wanted = (("x", "y"), (("join", "z", (("name", "x"), ("text", "ab"), ("name", "y"))), ("need", "z", "good")), "z")
        for text in ("x,y:z=x'ab'y;need z in good;give z",
                     "  x  ,  y  :  z  =  x  'ab'  y  ;  need   z   in   good  ;  give   z  ",
                     "x ,y :z= x'ab' y ;need z in good ;give z "):
            self.assertEqual(read_program(text).picture(), wanted, text)

    def test_quoted_texts_side_by_side(self):
        parts = (("text", "a"), ("text", "b"), ("name", "x"), ("text", ""), ("text", "c"))
        self.line("y='a''b'x'''c'", ("join", "y", parts))

    def test_words_that_only_begin_like_the_eight(self):
        self.line("turns = iff inn thenx", ("join", "turns", (("name", "iff"), ("name", "inn"), ("name", "thenx"))))
        self.line("y = turnx", ("join", "y", (("name", "turnx"),)))
        self.line("y = rewritemore x", ("join", "y", (("name", "rewritemore"), ("name", "x"))))

    def test_the_same_call_tells_the_same(self):
        text = "x: y = turn x; give y"
        self.assertEqual(read_program(text).picture(), read_program(text).picture())


class TokensTest(unittest.TestCase):
    def fault(self, text, place):
        self.assertEqual(reason(read_program, text), (BadLine, place), text)

    def test_the_families(self):
        with self.assertRaises(ProgramError):
            read_program("")
        with self.assertRaises(SizeError):
            read_program("x" * 1001)

    def test_characters_that_begin_no_token(self):
        for sign in "AZ09<>_@#.~!\"|&()[]{}*+?-/\\^`$":
            self.fault("x: y = x" + sign + "; give y", 8)
            self.fault(sign, 0)
            self.fault("x: give x " + sign, 10)

    def test_they_come_before_what_the_tokens_tell(self):
        self.fault("give give ; ; A", 14)
        self.fault(": : 'ab", 7)
        self.fault("= 'a b'", 4)

    def test_the_first_of_them_counts(self):
        self.fault("x: A 'ab", 3)
        self.fault("x: 'a.b' A", 5)

    def test_a_quoted_text_that_does_not_end(self):
        for text in ("x: y = 'ab", "x: y = '", "'", "x: y = 'ab' '", "x: y = x''b'"):
            self.fault(text, len(text))

    def test_a_quoted_text_with_what_is_no_letter(self):
        for sign in " .,;~!\"-*":
            self.fault("x: y = 'a" + sign + "b'; give y", 9)
            self.fault("x: y = '" + sign + "'; give y", 8)
            self.fault("x: y = 'ab" + sign, 10)


class FaultsTest(unittest.TestCase):
    def fault(self, text, place):
        self.assertEqual(reason(read_program, text), (BadLine, place), text)

    def test_tokens_that_are_left_out(self):
        self.fault("", 0)
        self.fault("   ", 3)
        self.fault(": give x", 0)
        self.fault("x give x", 2)
        self.fault("x, : give x", 3)
        self.fault("x: y x; give y", 5)
        self.fault("x: y = ; give y", 7)
        self.fault("x: y = x give y", 9)
        self.fault("x: y = turn; give y", 11)
        self.fault("x: y = rewrite x; give y", 16)
        self.fault("x: y = if in b then c else d; give y", 10)
        self.fault("x: y = if a b then c else d; give y", 12)
        self.fault("x: y = if a in then c else d; give y", 15)
        self.fault("x: y = if a in b c else d; give y", 17)
        self.fault("x: y = if a in b then else d; give y", 22)
        self.fault("x: y = if a in b then c d; give y", 24)
        self.fault("x: y = if a in b then c else; give y", 28)
        self.fault("x: need in b; give y", 8)
        self.fault("x: need x b; give y", 10)
        self.fault("x: need x in; give y", 12)
        self.fault("x: y = x; z", 11)

    def test_tokens_that_stand_twice(self):
        self.fault("x x: give x", 2)
        self.fault("x,, y: give x", 2)
        self.fault("x:: give x", 2)
        self.fault("x: y y = x; give x", 5)
        self.fault("x: y = = x; give x", 7)
        self.fault("x: y = turn turn x; give x", 12)
        self.fault("x: y = turn x x; give x", 14)
        self.fault("x: y = rewrite m x x; give x", 19)
        self.fault("x: y = x;; give x", 9)
        self.fault("x: need x in a b; give x", 15)
        self.fault("x: give give x", 8)
        self.fault("x: give x x", 10)
        self.fault("x: give x;", 9)

    def test_tokens_in_the_wrong_place(self):
        self.fault("'a': give x", 0)
        self.fault("x: 'a' = x; give x", 3)
        self.fault("x: y = turn 'a'; give x", 12)
        self.fault("x: y = rewrite 'a' x; give x", 15)
        self.fault("x: y = rewrite m 'a'; give x", 17)
        self.fault("x: need 'a' in b; give x", 8)
        self.fault("x: y = if 'a' in b then c else d; give x", 10)
        self.fault("x: give 'a'", 8)
        self.fault("x: y = x, x; give x", 8)
        self.fault("x; give x", 1)
        self.fault("x: ; give x", 3)

    def test_one_of_the_eight_words_where_a_name_is_due(self):
        for word in WORDS:
            self.fault(word + ": give x", 0)
            self.fault("x, " + word + ": give x", 3)
            self.fault("x: y = turn " + word + "; give x", 12)
            self.fault("x: y = rewrite " + word + " x; give x", 15)
            self.fault("x: y = x " + word + "; give x", 9)
            self.fault("x: need x in " + word + "; give x", 13)
            self.fault("x: give " + word, 8)
            if word not in ("need", "give"):
                self.fault("x: " + word + " = x; give x", 3)
            if word not in ("turn", "rewrite", "if"):
                self.fault("x: y = " + word + " x; give x", 7)

    def test_a_name_where_one_of_the_eight_words_is_due(self):
        self.fault("x: gives x", 9)
        self.fault("x: needs x in b; give x", 9)
        self.fault("x: need x inn b; give x", 10)
        self.fault("x: y = if x inn b then c else d; give x", 12)
        self.fault("x: y = if x in b thens c else d; give x", 17)
        self.fault("x: y = if x in b then c elsee d; give x", 24)

    def test_the_end_too_early(self):
        whole = "x, y: z = turn x; w = rewrite m z; v = if w in p then x else y; need v in p; u = v '' w; give u"
        self.assertEqual(len(read_program(whole).lines), 5)
        places = [found.start() for found in re.finditer(r"[a-z]+|''|[,:;=]", whole) if found.start() > 0]
        for place in places:
            text = whole[:place]
            self.fault(text, len(text))
            self.fault(text.rstrip() + "   ", len(text.rstrip()) + 3)

    def test_random_rows_of_tokens(self):
        rng = seeded(14)
        tokens = "n" * 8 + "q,:;=" + "".join(WORDS.values())
        for _ in range(3000):
            row = list(rng.choice(PROGRAMS))
            for _ in range(rng.choice((0, 1, 1, 2))):
                place = rng.randint(0, len(row))
                row[place:place + rng.randint(0, 2)] = [rng.choice(tokens) for _ in range(rng.randint(0, 2))]
            row = "".join(row)[:rng.randint(0, 60)]
            text, places = spelled(rng, row)
            wrong = first_wrong_token(row)
            if wrong is None:
                self.assertIsNone(reason(read_program, text), text)
            else:
                self.fault(text, (places + [len(text)])[wrong])


class LimitTest(unittest.TestCase):
    def test_1000_characters(self):
        text = "x:" + " " * 992 + "give x"
        self.assertEqual(len(text), 1000)
        self.assertEqual(read_program(text).picture(), (("x",), (), "x"))
        self.assertEqual(reason(read_program, text[:-1] + ";"), (BadLine, 999))
        self.assertEqual(reason(read_program, "x" * 1000), (BadLine, 1000))
        self.assertEqual(reason(read_program, " " * 1000), (BadLine, 1000))
        self.assertEqual(reason(read_program, "'" + "a" * 999), (BadLine, 1000))
        self.assertEqual(reason(read_program, "A" * 1000), (BadLine, 0))

    def test_1001_characters(self):
        text = "x:" + " " * 993 + "give x"
        self.assertEqual(len(text), 1001)
        for wrong in (text, text[:-1] + ";", "x" * 1001, " " * 1001, "A" * 1001, "'" * 1001):
            self.assertEqual(reason(read_program, wrong), (TooLarge, 1000))


if __name__ == "__main__":
    unittest.main()
