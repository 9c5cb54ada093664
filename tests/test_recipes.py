"""Point 4.7: recipes."""

import unittest

from anytext.errors import BadPattern, BadRecipe, ProgramError, TooLarge
from anytext.machines.build import machine_of
from anytext.patterns.reader import read_pattern
from anytext.rewriters.makers import after_first, before_first, by_letters, only, replacing
from anytext.rewriters.recipes import read_recipe
from anytext.rewriters.rewriter import Rewriter
from anytext.rewriters.same import same
from helpers import reason, seeded, texts_up_to

# The letters of all words that stand in recipes but `replace`.
WORDS = "thenby"


def machine(letters, notation):
    return machine_of(letters, read_pattern(letters, notation))


class ReadRecipeTest(unittest.TestCase):
    def means(self, letters, recipe, *rewriters):
        """The recipe does what these rewriters do one behind another."""
        found = read_recipe(letters, recipe)
        self.assertIs(type(found), Rewriter)
        self.assertEqual(found.letters, letters)
        for text in texts_up_to(letters, 6 if len(letters) < 3 else 4 if len(letters) < 5 else 3):
            wanted = text
            for rewriter in rewriters:
                wanted = None if wanted is None else rewriter.rewrite(wanted)
            self.assertEqual(found.rewrite(text), wanted, text)
        self.assertEqual(read_recipe(letters, recipe).picture(), found.picture())

    def test_letters(self):
        self.means("ab", "letters", by_letters("ab", {}))
        self.means("ab", "letters a>b", by_letters("ab", {"a": "b"}))
        self.means("ab", "letters b> a>bab", by_letters("ab", {"a": "bab", "b": ""}))
        self.means("cab", "letters b>a c>cc a>", by_letters("cab", {"a": "", "b": "a", "c": "cc"}))
        self.means("ab", "letters a>" + "ab" * 10, by_letters("ab", {"a": "ab" * 10}))

    def test_replace(self):
        self.means("ab", "replace ab by ba", replacing("ab", "ab", "ba"))
        self.means("ab", "replace aba by ()", replacing("ab", "aba", ""))
        self.means("ab", "replace a by aa", replacing("ab", "a", "aa"))
        self.means("ab", "replace abababab by " + "b" * 20, replacing("ab", "abababab", "b" * 20))

    def test_before_and_after(self):
        self.means("ab", "before ab", before_first("ab", "ab"))
        self.means("ab", "after ba", after_first("ab", "ba"))
        self.means("cab", "before cacacaca", before_first("cab", "cacacaca"))
        self.means("cab", "after b", after_first("cab", "b"))

    def test_only(self):
        self.means("ab", "only a*b", only(machine("ab", "a*b")))
        self.means("ab", "only !(.*aa.*)&.+|()", only(machine("ab", "!(.*aa.*)&.+|()")))
        self.means("ab", "only []", only(machine("ab", "[]")))
        self.means("ab", "only .{2,3}", only(machine("ab", ".{2,3}")))

    def test_only_and_the_empty_word(self):
        self.means("ab", "only ", only(machine("ab", "")))
        self.means("ab", "only  then letters a>b", only(machine("ab", "")), by_letters("ab", {"a": "b"}))
        self.assertEqual([read_recipe("ab", "only ").rewrite(text) for text in ("", "a")], ["", None])

    def test_several_steps(self):
        self.means("ab", "letters a>b b>a then letters a>ab", by_letters("ab", {"a": "b", "b": "a"}),
                   by_letters("ab", {"a": "ab"}))
        self.means("ab", "letters then before ab", before_first("ab", "ab"))
        self.means("ab", "after a then replace bb by a then only a*", after_first("ab", "a"),
                   replacing("ab", "bb", "a"), only(machine("ab", "a*")))
        self.means("ab", "only .*b then before b then letters a>bb", only(machine("ab", ".*b")), before_first("ab", "b"),
                   by_letters("ab", {"a": "bb"}))
        self.means("cab", "replace ab by c then letters c>cc a>", replacing("cab", "ab", "c"),
                   by_letters("cab", {"c": "cc", "a": ""}))

    def test_steps_behind_one_that_refuses(self):
        self.means("ab", "only [] then letters a>b", only(machine("ab", "[]")))
        self.means("ab", "letters a>b then only a* then letters a>b", by_letters("ab", {"a": "b"}), only(machine("ab", "a*")))

    def test_many_steps(self):
        recipe = " then ".join(["letters a>b b>a"] * 40)
        self.assertEqual(read_recipe("ab", recipe).rewrite("aab"), "aab")
        self.assertEqual(same(read_recipe("ab", recipe), by_letters("ab", {}))[0], "same")
        recipe = " then ".join(["replace abab by ba", "replace bb by abab", "after ba", "before aaa"] * 3)
        found = read_recipe("ab", recipe)
        rng = seeded(110)
        steps = [replacing("ab", "abab", "ba"), replacing("ab", "bb", "abab"), after_first("ab", "ba"), before_first("ab", "aaa")]
        for _ in range(50):
            text = wanted = "".join(rng.choice("ab") for _ in range(rng.randint(0, 40)))
            for step in steps * 3:
                wanted = step.rewrite(wanted)
            self.assertEqual(found.rewrite(text), wanted)

    def test_words_of_recipes_as_texts(self):
        self.means(WORDS, "before then", before_first(WORDS, "then"))
        self.means(WORDS, "after by then after then", after_first(WORDS, "by"), after_first(WORDS, "then"))
        self.means(WORDS, "replace then by by", replacing(WORDS, "then", "by"))
        self.means(WORDS, "replace by by then", replacing(WORDS, "by", "then"))
        self.means(WORDS, "replace by by then then replace then by by then letters t>then",
                   replacing(WORDS, "by", "then"), replacing(WORDS, "then", "by"), by_letters(WORDS, {"t": "then"}))
        self.means(WORDS, "only then", only(machine(WORDS, "then")))
        self.means(WORDS, "only then then only by", only(machine(WORDS, "then")), only(machine(WORDS, "by")))
        self.means("only", "before only then only only", before_first("only", "only"), only(machine("only", "only")))
        self.means("befor", "after before then replace before by ()", after_first("befor", "before"),
                   replacing("befor", "before", ""))

    def test_signs_as_letters(self):
        self.means(">=a", "letters >>> =>=> a>", by_letters(">=a", {">": ">", "=": "=>", "a": ""}))
        self.means(">a", "letters a>>>", by_letters(">a", {"a": ">>"}))
        self.means(">a", "replace > by >>", replacing(">a", ">", ">>"))

    def test_the_example(self):
        self.assertEqual(read_recipe("abc", "replace ab by c then letters c>cc a>").rewrite("aabb"), "ccb")


class FaultsTest(unittest.TestCase):
    def fault(self, index, *recipes, letters="ab"):
        for recipe in recipes:
            self.assertEqual(reason(read_recipe, letters, recipe), (BadRecipe, index), recipe)

    def test_unknown_words(self):
        self.fault(0, "none", "Letters", "letter", "then", "a", "by", "then letters", "a>b")
        self.fault(2, "before a none", "before a letters", "before a by", "only a* only a*", "after b b")
        self.fault(3, "before a then none", "before a then then", "before a then by", "only a then a")
        self.fault(4, "replace a by b none", "replace a by b a>b", "replace a by b before a")
        self.fault(2, "letters a>b none", "letters a>b letters", "letters a>b only")

    def test_empty_words(self):
        self.fault(0, "", " ", " letters", "  ")
        self.fault(1, "letters ", "letters  a>b", "before ", "before  a", "replace  a by b", "after ")
        self.fault(2, "letters a>b ", "letters a>b  b>a", "before a ", "before a  then letters", "replace a  by b")
        self.fault(2, "letters then ", "letters then  letters")
        self.fault(3, "replace a by ", "replace a by  b", "only a then ", "letters a>b then ")
        self.fault(4, "replace a by b ")

    def test_words_to_look_for(self):
        self.fault(1, "before aaaaaaaaa", "after ababababa", "replace aaaaaaaaa by b", "before c", "after abc",
                   "replace abA by b", "before ()", "replace () by a", "before a*", "before a,b")
        self.fault(1, "before then", "replace then by b", "replace by by a")

    def test_texts_to_write(self):
        self.fault(3, "replace a by " + "ab" * 10 + "a", "replace a by c", "replace a by aBa", "replace a by ()()",
                   "replace a by (", "replace a by (a)", "replace a by then", "replace a by by")

    def test_no_by(self):
        self.fault(2, "replace a to b", "replace a b", "replace a then b", "replace a By b", "replace a then letters")

    def test_pairs(self):
        self.fault(1, "letters a", "letters ab", "letters >", "letters >a", "letters a=b", "letters c>a", "letters ab>a",
                   "letters a>c", "letters a>b>a", "letters a>>", "letters by", "letters a<b", "letters A>a", "letters a>()")
        self.fault(1, "letters a>" + "b" * 21)
        self.fault(2, "letters a>b a>b", "letters a>b a>", "letters b> b>a", "letters a> b")
        self.fault(3, "letters a>b b>a a>b", "letters b>a a>b b>", "letters a>a b>b c>c")
        self.fault(1, "letters <>a", "letters a>>a")
        self.assertIsNone(reason(read_recipe, "ab", "letters a>" + "b" * 20 + " b>" + "a" * 20))
        # In a new step letters may be told again.
        self.assertIsNone(reason(read_recipe, "ab", "letters a>b then letters a>b"))

    def test_a_step_missing_behind_then(self):
        self.fault(2, "letters then", "letters then then letters")
        self.fault(3, "before a then", "only a then", "before a then then after b")
        self.fault(5, "replace a by b then")

    def test_recipes_that_end_too_early(self):
        self.fault(1, "before", "after", "replace", "only")
        self.fault(2, "replace a")
        self.fault(3, "replace a by")
        self.fault(4, "letters a>b then before", "before a then replace", "before a then only", "only a then after")
        self.fault(6, "before a then replace a by")

    def test_two_faults_at_once(self):
        self.fault(0, "none c", "then then")
        self.fault(1, "before c none", "replace c to c", "letters c>c c>c", "before c then only (", "replace aaaaaaaaa of")
        self.fault(2, "replace a to c", "before a only (", "replace a only ((")
        self.fault(3, "replace a by c then only (")
        self.assertEqual(reason(read_recipe, "ab", "only ( then before c"), (BadPattern, 1))
        self.assertEqual(reason(read_recipe, "ab", "only ( none"), (BadPattern, 1))

    def test_faults_in_notations(self):
        self.assertEqual(reason(read_recipe, "ab", "only c"), (BadPattern, 0))
        self.assertEqual(reason(read_recipe, "ab", "only ab)"), (BadPattern, 2))
        self.assertEqual(reason(read_recipe, "ab", "before a then only a{2,1}"), (BadPattern, 4))
        self.assertEqual(reason(read_recipe, "ab", "only then"), (BadPattern, 0))
        self.assertEqual(reason(read_recipe, "ab", "only (a then letters"), (BadPattern, 2))
        self.assertEqual(reason(read_recipe, "ab", "only " + "(" * 13), (TooLarge, 12))
        self.assertEqual(reason(read_recipe, "ab", "only " + "a" * 60), (TooLarge, 100))

    def test_long_notations(self):
        self.assertEqual(reason(read_recipe, "ab", "only " + "[ab" + "a" * 396 + "]"), None)
        self.assertEqual(reason(read_recipe, "ab", "only " + "[ab" + "a" * 397 + "]"), (TooLarge, 400))
        self.assertEqual(reason(read_recipe, "ab", "only " + "x" * 401), (TooLarge, 400))

    def test_words_of_recipes_as_texts(self):
        self.fault(1, "before", "only", "after thenx", letters=WORDS)
        self.fault(2, "before by by", "only then by", "replace then then by", "letters t>then by", letters=WORDS)
        self.fault(3, "before then then", "replace by by", "only then then", letters=WORDS)
        self.fault(4, "replace by by by by", "replace then by then by", letters=WORDS)
        self.fault(5, "replace by by then then", letters=WORDS)

    def test_the_family(self):
        with self.assertRaises(ProgramError):
            read_recipe("ab", "none")

    def test_the_example(self):
        self.fault(1, "before abd", letters="abc")


if __name__ == "__main__":
    unittest.main()
