"""Points 2.2 and 2.3: the notation of patterns and its faults."""

import functools
import itertools
import unittest

from anytext.errors import BadPattern, PatternError, SizeError, TooLarge
from anytext.patterns.reader import read_pattern
from anytext.patterns.terms import size
from helpers import reason, seeded

A = ("one", "a")
B = ("one", "b")
C = ("one", "c")
ANY = ("one", "ab")
EMPTY = ("empty",)
NONE = ("none",)


def counted(term, least, most):
    """The term of `A{m,n}`, as point 2.2 tells it."""
    joined = None
    for _ in range(least):
        joined = term if joined is None else ("join", joined, term)
    if most == least:
        return EMPTY if joined is None else joined
    fewer = up_to(term, most - least)
    return fewer if joined is None else ("join", joined, fewer)


def up_to(term, many):
    if many == 1:
        return ("either", EMPTY, term)
    return ("either", EMPTY, ("join", term, up_to(term, many - 1)))


class Grammar:
    """The grammar of point 2.2, tried out in all ways; tells nothing of terms."""

    def __init__(self, letters, text):
        self.letters = letters
        self.text = text

    def fits(self):
        return len(self.text) in self.pattern(0)

    def behind(self, places, signs):
        return {place + 1 for place in places if place < len(self.text) and self.text[place] in signs}

    def again(self, places, step):
        found = set(places)
        while True:
            more = found | step(found)
            if more == found:
                return found
            found = more

    def of_all(self, kind, places):
        return set().union(*[kind(place) for place in places])

    @functools.lru_cache(None)
    def pattern(self, place):
        return self.again(self.meets(place), lambda found: self.of_all(self.meets, self.behind(found, "|")))

    @functools.lru_cache(None)
    def meets(self, place):
        return self.again(self.row(place), lambda found: self.of_all(self.row, self.behind(found, "&")))

    @functools.lru_cache(None)
    def row(self, place):
        return self.again({place}, lambda found: self.of_all(self.unary, found))

    @functools.lru_cache(None)
    def unary(self, place):
        return self.of_all(self.unary, self.behind({place}, "!")) | self.counted(place)

    @functools.lru_cache(None)
    def counted(self, place):
        return self.again(self.simple(place), lambda found: self.behind(found, "*+?") | self.times(found))

    def times(self, places):
        found = set()
        for least in range(9):
            first = self.behind(self.behind(places, "{"), str(least))
            found |= self.behind(first, "}")
            for most in range(least, 9):
                found |= self.behind(self.behind(self.behind(first, ","), str(most)), "}")
        return found

    @functools.lru_cache(None)
    def simple(self, place):
        here = {place}
        inside = self.behind(here, "[")
        inside = inside | self.behind(inside, "^")
        inside = self.again(inside, lambda found: self.behind(found, self.letters))
        bracketed = self.behind(self.of_all(self.pattern, self.behind(here, "(")), ")")
        return self.behind(here, self.letters + ".") | self.behind(inside, "]") | bracketed


@functools.lru_cache(None)
def goes_on(letters, beginning):
    """Whether some notation begins so. Behind any beginning one of these ends goes on, if anything does."""
    ends = ["", letters[0], "]", "}"] + [digit + "}" for digit in "012345678"]
    open_brackets = beginning.count("(")
    return any(Grammar(letters, beginning + end + ")" * many).fits()
               for end in ends for many in range(open_brackets + 1))


def first_fault(letters, text):
    """The error of point 2.3 for a notation of a few characters, or None; tells nothing of TooLarge(100)."""
    for place in range(len(text)):
        if not goes_on(letters, text[:place + 1]):
            return (BadPattern, place)
        before = text[:place]
        if text[place] == "(" and before.count("(") - before.count(")") == 12:
            return (TooLarge, 12)
    return None if Grammar(letters, text).fits() else (BadPattern, len(text))


class TermsTest(unittest.TestCase):
    def reads(self, text, pattern, letters="ab"):
        self.assertEqual(read_pattern(letters, text), pattern)

    def test_the_document(self):
        self.reads("!a[ba]?", ("join", ("not", A), ("either", EMPTY, ANY)))
        with self.assertRaises(BadPattern):
            read_pattern("ab", "a{2,1}")

    def test_letters_and_the_dot(self):
        self.reads("a", A)
        self.reads(".", ANY)
        self.reads(".", ("one", "a"), "a")
        self.reads(".", ("one", "hgfedcba"), "hgfedcba")
        self.reads("0", ("one", "0"), "0<")
        self.reads("<>=:_@#", read_pattern("<>=:_@#", "((((((<>)=):)_)@)#)"), "<>=:_@#")

    def test_empty_rows(self):
        self.reads("", EMPTY)
        self.reads("()", EMPTY)
        self.reads("(())", EMPTY)
        self.reads("|", ("either", EMPTY, EMPTY))
        self.reads("&", ("both", EMPTY, EMPTY))
        self.reads("a|", ("either", A, EMPTY))
        self.reads("|a", ("either", EMPTY, A))
        self.reads("a&", ("both", A, EMPTY))
        self.reads("&|&", ("either", ("both", EMPTY, EMPTY), ("both", EMPTY, EMPTY)))
        self.reads("()a", ("join", EMPTY, A))
        self.reads("()*", ("star", EMPTY))
        self.reads("!()", ("not", EMPTY))

    def test_rows_group_from_the_left(self):
        self.reads("ab", ("join", A, B))
        self.reads("aba", ("join", ("join", A, B), A))
        self.reads("a(ba)", ("join", A, ("join", B, A)))
        self.reads("a|b|a", ("either", ("either", A, B), A))
        self.reads("a|(b|a)", ("either", A, ("either", B, A)))
        self.reads("a&b&a", ("both", ("both", A, B), A))

    def test_what_holds_together_more_strongly(self):
        self.reads("a|b&c", ("either", A, ("both", B, C)), "abc")
        self.reads("a&b|c", ("either", ("both", A, B), C), "abc")
        self.reads("ab&c", ("both", ("join", A, B), C), "abc")
        self.reads("(a|b)c", ("join", ("either", A, B), C), "abc")
        self.reads("ab*", ("join", A, ("star", B)))
        self.reads("!ab", ("join", ("not", A), B))
        self.reads("!a*", ("not", ("star", A)))
        self.reads("(!a)*", ("star", ("not", A)))
        self.reads("!!a", ("not", ("not", A)))
        self.reads("a!b", ("join", A, ("not", B)))

    def test_signs_behind_an_item(self):
        self.reads("a*", ("star", A))
        self.reads("a+", ("join", A, ("star", A)))
        self.reads("a?", ("either", EMPTY, A))
        self.reads("a**", ("star", ("star", A)))
        self.reads("a+*", ("star", ("join", A, ("star", A))))
        self.reads("a*+", ("join", ("star", A), ("star", ("star", A))))
        self.reads("a?*", ("star", ("either", EMPTY, A)))
        self.reads("a{2}?", ("either", EMPTY, ("join", A, A)))
        self.reads("a?{2}", ("join", ("either", EMPTY, A), ("either", EMPTY, A)))
        self.reads("a{0}{1}", EMPTY)
        self.reads("(ab){2}", ("join", ("join", A, B), ("join", A, B)))

    def test_square_brackets(self):
        self.reads("[]", NONE)
        self.reads("[^]", ANY)
        self.reads("[a]", A)
        self.reads("[ba]", ANY)
        self.reads("[abab]", ANY)
        self.reads("[^a]", B)
        self.reads("[^ab]", NONE)
        self.reads("[^bba]", NONE)
        self.reads("[^a]", NONE, "a")
        self.reads("[ac]", ("one", "ca"), "bca")
        self.reads("[^cc]", ("one", "ba"), "bca")
        self.reads("[]*", ("star", NONE))
        self.reads("[][^]", ("join", NONE, ANY))

    def test_counts_of_each_kind(self):
        self.reads("a{0}", EMPTY)
        self.reads("a{0,0}", EMPTY)
        self.reads("a{1}", A)
        self.reads("a{3}", ("join", ("join", A, A), A))
        self.reads("a{0,1}", ("either", EMPTY, A))
        self.reads("a{0,2}", ("either", EMPTY, ("join", A, ("either", EMPTY, A))))
        self.reads("a{2,3}", ("join", ("join", A, A), ("either", EMPTY, A)))

    def test_all_counts(self):
        for least in range(9):
            self.reads(f"a{{{least}}}", counted(A, least, least))
            for most in range(least, 9):
                self.reads(f"a{{{least},{most}}}", counted(A, least, most))
                self.reads(f"[ba]*{{{least},{most}}}b", ("join", counted(("star", ANY), least, most), B))

    def test_digits_as_letters(self):
        self.reads("0{0}", EMPTY, "01")
        self.reads("1{2}2", ("join", ("join", ("one", "1"), ("one", "1")), ("one", "2")), "12")
        self.assertEqual(reason(read_pattern, "9", "9{9}"), (BadPattern, 2))

    def test_random_notations(self):
        rng = seeded(2)
        for letters in ("a", "ba", "0b9"):
            for _ in range(300):
                text, pattern = random_notation(rng, letters, 3, 0)
                if len(text) > 400:
                    continue
                if size(pattern) > 100:
                    self.assertEqual(reason(read_pattern, letters, text), (TooLarge, 100))
                else:
                    self.assertEqual(read_pattern(letters, text), pattern, text)


def random_notation(rng, letters, depth, strength):
    """A notation and its term, as strong as asked: 0 a pattern, 1 meets, 2 a row, 3 unary, 4 counted, 5 simple."""
    if strength == 5:
        return random_simple(rng, letters, depth)
    if strength == 4:
        text, term = random_notation(rng, letters, depth, 5)
        for _ in range(rng.choice((0, 0, 1, 2))):
            text, term = with_sign(rng, text, term)
        return text, term
    if strength == 3:
        text, term = random_notation(rng, letters, depth, 4)
        for _ in range(rng.choice((0, 0, 0, 1, 2))):
            text, term = "!" + text, ("not", term)
        return text, term
    many = rng.choice((0, 1, 2, 3)) if strength == 2 else rng.choice((1, 1, 1, 2, 3))
    parts = [random_notation(rng, letters, depth, strength + 1) for _ in range(many)]
    text = ("|", "&", "")[strength].join([part[0] for part in parts])
    terms = [part[1] for part in parts]
    kind = ("either", "both", "join")[strength]
    return text, functools.reduce(lambda first, second: (kind, first, second), terms) if terms else EMPTY


def random_simple(rng, letters, depth):
    kind = rng.choice("l.[^(((") if depth else rng.choice("l.[^")
    named = "".join(rng.choice(letters) for _ in range(rng.randint(0, 3)))
    if kind == "l":
        letter = rng.choice(letters)
        return letter, ("one", letter)
    if kind == ".":
        return ".", ("one", letters)
    if kind == "(":
        text, term = random_notation(rng, letters, depth - 1, 0)
        return f"({text})", term
    kept = "".join(letter for letter in letters if (letter in named) == (kind == "["))
    return ("[" if kind == "[" else "[^") + named + "]", ("one", kept) if kept else NONE


def with_sign(rng, text, term):
    sign = rng.choice("*+?{,")
    if sign == "*":
        return text + "*", ("star", term)
    if sign == "+":
        return text + "+", ("join", term, ("star", term))
    if sign == "?":
        return text + "?", ("either", EMPTY, term)
    least = rng.randint(0, 2)
    most = least if sign == "{" else rng.randint(least, 3)
    return text + (f"{{{least}}}" if sign == "{" else f"{{{least},{most}}}"), counted(term, least, most)


class FaultsTest(unittest.TestCase):
    def fault(self, text, place, letters="ab"):
        self.assertEqual(reason(read_pattern, letters, text), (BadPattern, place), text)

    def test_families(self):
        with self.assertRaises(PatternError):
            read_pattern("ab", "*")
        with self.assertRaises(SizeError):
            read_pattern("ab", "a" * 401)

    def test_at_the_beginning(self):
        for sign in "*+?{}],^~ c'\"-1/;":
            self.fault(sign + "a", 0)

    def test_in_the_middle(self):
        for sign in "}],^~ c-1":
            self.fault("a" + sign + "b", 1)
        for beginning in ("a|", "a&", "a(", "ab!"):
            for sign in "*+?{},]^ ":
                self.fault(beginning + sign + "b", len(beginning))

    def test_behind_not(self):
        for sign in "|&)*+?{]":
            self.fault("(!" + sign, 2)
        self.fault("!", 1)
        self.fault("a!!", 3)

    def test_within_square_brackets(self):
        for sign in "[(|&!*+?{},. c-":
            self.fault("a[b" + sign + "]", 3)
        self.fault("[a^]", 2)
        self.fault("[^^]", 2)

    def test_behind_the_curly_bracket(self):
        for sign in "9,}a{ -(":
            self.fault("a{" + sign + "}", 2)
        self.fault("a{2 }", 3)
        self.fault("a{22}", 3)
        self.fault("a{2;3}", 3)

    def test_behind_the_comma(self):
        for sign in "19,}a (":
            self.fault("a{2," + sign + "}", 4)
        self.fault("a{2,3,4}", 5)
        self.fault("a{2,34}", 5)
        self.fault("a{2,3a", 5)

    def test_a_second_digit_that_is_less(self):
        for least in range(9):
            for most in range(least):
                self.fault(f"b(a{{{least},{most}}}", 6)

    def test_a_closing_bracket_too_many(self):
        self.fault(")", 0)
        self.fault("a)", 1)
        self.fault("(a))", 3)
        self.fault("(a)b)c", 4)
        self.fault("a]", 1)
        self.fault("[a]]", 3)
        self.fault("a}", 1)

    def test_the_end_too_early(self):
        for text in ("(", "((a)", "[", "[^", "[a", "[^ab", "!", "a{", "a{3", "a{3,", "a{3,4", "a|(b", "a|!", "(!"):
            self.fault(text, len(text))

    def test_signs_behind_nothing(self):
        self.fault("a|*", 2)
        self.fault("(*a)", 1)
        self.fault("!*", 1)

    def test_all_short_notations(self):
        signs = "a2|&!*{}[^](),. "
        for length in range(4):
            for row in itertools.product(signs, repeat=length):
                text = "".join(row)
                fault = first_fault("a2", text)
                self.assertEqual(reason(read_pattern, "a2", text), fault, text)

    def test_random_notations(self):
        rng = seeded(3)
        for _ in range(1500):
            text = "".join(rng.choice("ab|&!*+?{{,,}}[[^]](())012893. ") for _ in range(rng.randint(4, 12)))
            self.assertEqual(reason(read_pattern, "ab", text), first_fault("ab", text), text)

    def test_notations_with_one_wrong_character(self):
        rng = seeded(4)
        for _ in range(150):
            text, _ = random_notation(rng, "ab", 2, 0)
            if len(text) > 30:
                continue
            place = rng.randint(0, len(text))
            text = text[:place] + rng.choice("ab|&!*+?{,}[^]()12. ") + text[place + rng.randint(0, 1):]
            fault = first_fault("ab", text)
            if fault is None:
                self.assertIn(reason(read_pattern, "ab", text), (None, (TooLarge, 100)))
            else:
                self.assertEqual(reason(read_pattern, "ab", text), fault, text)


class LimitsTest(unittest.TestCase):
    def raises(self, text, error, letters="ab"):
        self.assertEqual(reason(read_pattern, letters, text), error)

    def test_twelve_open_brackets(self):
        self.assertEqual(read_pattern("ab", "(" * 12 + "a" + ")" * 12), A)
        self.assertEqual(read_pattern("ab", ("(" * 12 + ")" * 12) * 2), ("join", EMPTY, EMPTY))
        self.raises("(" * 12, (BadPattern, 12))

    def test_thirteen_open_brackets(self):
        self.raises("(" * 13 + "a" + ")" * 13, (TooLarge, 12))
        self.raises("(" * 13, (TooLarge, 12))
        self.raises("(" * 12 + "a|b!(", (TooLarge, 12))
        self.raises("(" * 12 + "a)(a(", (TooLarge, 12))

    def test_a_fault_ahead_of_the_thirteenth(self):
        self.raises(")" + "(" * 13, (BadPattern, 0))
        self.raises("(" * 6 + "*" + "(" * 7, (BadPattern, 6))
        self.raises("(" * 12 + "~(", (BadPattern, 12))

    def test_a_fault_behind_the_thirteenth(self):
        self.raises("(" * 13 + "~", (TooLarge, 12))
        self.raises("(" * 13 + ")" * 14, (TooLarge, 12))

    def test_a_bracket_that_cannot_stand_where_twelve_are_open(self):
        self.raises("(" * 12 + "[(", (BadPattern, 13))
        self.raises("(" * 12 + "a{(", (BadPattern, 14))

    def test_the_thirteenth_comes_before_the_size(self):
        self.raises("a{8}" * 13 + "(" * 13, (TooLarge, 12))

    def test_400_characters(self):
        self.assertEqual(read_pattern("ab", "[" + "a" * 398 + "]"), A)
        self.raises("[" + "a" * 398 + "~", (BadPattern, 399))
        self.raises("a" * 400, (TooLarge, 100))
        self.raises("a" * 399 + ")", (BadPattern, 399))
        self.raises("!" * 400, (BadPattern, 400))

    def test_401_characters(self):
        self.raises("[" + "a" * 399 + "]", (TooLarge, 400))
        self.raises("~" * 401, (TooLarge, 400))
        self.raises("(" * 401, (TooLarge, 400))
        self.raises("a" * 401, (TooLarge, 400))

    def test_100000_characters(self):
        for sign in "a(!~*":
            self.raises(sign * 100000, (TooLarge, 400))

    def test_a_size_of_100(self):
        found = read_pattern("ab", "a" * 50 + "*")
        self.assertEqual(size(found), 100)
        self.assertEqual(size(read_pattern("ab", "!" * 99 + "a")), 100)
        self.assertEqual(size(read_pattern("ab", "a" + "*" * 99)), 100)
        self.assertEqual(size(read_pattern("ab", "(a{8}){6}" + "(){2}*")), 100)

    def test_a_size_of_101(self):
        self.raises("a" * 51, (TooLarge, 100))
        self.raises("!" * 100 + "a", (TooLarge, 100))
        self.raises("a" + "*" * 100, (TooLarge, 100))
        self.raises("(a{8}){6}" + "(){2}**", (TooLarge, 100))
        self.raises("|" * 50, (TooLarge, 100))

    def test_the_size_counts_behind_all_faults(self):
        self.raises("a" * 51 + ")", (BadPattern, 51))
        self.raises("a" * 50 + "*)", (BadPattern, 51))
        self.raises("a" * 200 + "(", (BadPattern, 201))
        self.raises("a" * 200 + "{", (BadPattern, 201))

    def test_a_large_term_that_is_not_taken_counts_nothing(self):
        self.assertEqual(read_pattern("ab", "(a{8}{8}{8}){0}b"), ("join", EMPTY, B))

    def test_repeated_repetitions(self):
        self.raises("a" + "{8}" * 133, (TooLarge, 100))
        self.raises("a" + "{8}" * 132 + "{9", (BadPattern, 398))
        self.raises("a" + "+" * 399, (TooLarge, 100))
        self.raises("a" + "{0,8}" * 79, (TooLarge, 100))
        self.assertEqual(read_pattern("ab", "a" + "{8}" * 130 + "{0}"), EMPTY)

    def test_the_same_call_tells_the_same(self):
        for text in ("a(b|.)*{1,3}", "!(a&b)+"):
            self.assertEqual(read_pattern("ab", text), read_pattern("ab", text))
        self.assertEqual(reason(read_pattern, "ab", "a{"), reason(read_pattern, "ab", "a{"))


if __name__ == "__main__":
    unittest.main()
