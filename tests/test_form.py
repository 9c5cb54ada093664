"""Points 4.2 and 4.3: least forms."""

import unittest

from anytext.rewriters.form import least_form
from anytext.rewriters.makers import replacing
from anytext.rewriters.rewriter import Rewriter
from helpers import (random_rewriter, reason, seeded, shared_beginning, texts_up_to, variants)

REFUSING = ("ab", "", (None,), ((None, None),))


def state_behind(form, text):
    """The state behind the text and what was written for it, or None."""
    state, written = 0, form.lead
    for letter in text:
        way = form.table[state][form.letters.index(letter)]
        if way is None:
            return None
        state, written = way[0], written + way[1]
    return state, written


def written_from(form, state, text):
    """What is written for the text that is read from the state on, or None."""
    found = ""
    for letter in text:
        way = form.table[state][form.letters.index(letter)]
        if way is None:
            return None
        state, found = way[0], found + way[1]
    return None if form.finals[state] is None else found + form.finals[state]


class LeastFormTest(unittest.TestCase):
    def holds(self, rewriter, length=5):
        """Looks at all that point 4.3 asks of the least form."""
        before = rewriter.picture()
        form = least_form(rewriter)
        letters = rewriter.letters
        self.assertIs(type(form), Rewriter)
        self.assertEqual(form.letters, letters)
        short, long = texts_up_to(letters, length), texts_up_to(letters, length + 2)
        made = {text: rewriter.rewrite(text) for text in long}
        for text in short:
            self.assertEqual(form.rewrite(text), made[text])
        least_texts = {}
        for text in short:
            place = state_behind(form, text)
            coming = [made[longer] for longer in long if longer.startswith(text) and made[longer] is not None]
            if place is not None:
                least_texts.setdefault(place[0], text)
            if coming and len(text) + len(form.finals) <= length + 2:
                # Enough texts go on from here to show all that is common to them.
                self.assertIsNotNone(place)
                self.assertTrue(shared_beginning(coming).startswith(place[1]))
        self.assertEqual(list(least_texts), sorted(least_texts))
        self.assertEqual(rewriter.picture(), before)
        return form

    def is_early_and_small(self, form):
        """Nothing can be written earlier, no state can be left out, and no two states do the same."""
        if form.finals == (None,):
            self.assertEqual(form.picture(), (form.letters, "", (None,), ((None,) * len(form.letters),)))
            return
        texts = texts_up_to(form.letters, 5 if len(form.letters) < 3 else 4)
        rows = []
        for state in range(len(form.finals)):
            row = [written_from(form, state, text) for text in texts]
            self.assertTrue([text for text in row if text is not None], "a state is not live")
            self.assertEqual(shared_beginning([text for text in row if text is not None]), "")
            self.assertNotIn(row, rows)
            rows.append(row)
        order = [0]
        for state in order:
            for way in form.table[state]:
                if way is not None and way[0] not in order:
                    order.append(way[0])
        self.assertEqual(order, list(range(len(form.finals))))

    def test_random_rewriters(self):
        rng = seeded(70)
        for letters, times, length in (("a", 60, 8), ("ba", 80, 5), ("cab", 40, 4)):
            for _ in range(times):
                refusing = rng.choice((0, 0.2, 0.5))
                rewriter = random_rewriter(rng, letters, rng.randint(1, 4), refusing, rng.choice((1, 2, 3)))
                form = self.holds(rewriter, length)
                self.is_early_and_small(form)
                self.assertLessEqual(len(form.finals), len(rewriter.finals))

    def test_variants_have_the_same_least_form(self):
        rng = seeded(71)
        for letters, times in (("a", 30), ("ba", 40), ("cab", 15)):
            for _ in range(times):
                rewriter = random_rewriter(rng, letters, rng.randint(1, 4), rng.choice((0, 0.2, 0.4)))
                form = least_form(rewriter).picture()
                for variant in variants(rng, rewriter):
                    self.assertEqual(least_form(variant).picture(), form)

    def test_the_least_form_of_a_least_form(self):
        rng = seeded(72)
        for _ in range(60):
            form = least_form(random_rewriter(rng, rng.choice(("a", "ab", "bca")), rng.randint(1, 4), 0.3))
            self.assertEqual(least_form(form).picture(), form.picture())

    def test_rewriters_that_do_something_else_have_another_one(self):
        rng = seeded(73)
        forms = {}
        texts = texts_up_to("ab", 6)
        for _ in range(300):
            rewriter = random_rewriter(rng, "ab", rng.randint(1, 2), 0.4, 1)
            made = tuple(rewriter.rewrite(text) for text in texts)
            self.assertEqual(forms.setdefault(made, least_form(rewriter).picture()), least_form(rewriter).picture())
        self.assertGreater(len(forms), 50)
        self.assertEqual(len(set(forms.values())), len(forms))

    def test_written_earlier(self):
        form = least_form(Rewriter("ab", "", [None, "aab", "ab"], [[(1, ""), (2, "a")], [None, None], [None, (2, "")]]))
        self.assertEqual(form.picture(), ("ab", "aab", (None, "", ""), (((1, ""), (2, "")), (None, None), (None, (2, "")))))
        # As early as the lead: all that is made begins with it.
        form = least_form(Rewriter("ab", "b", ["ab"], [[(0, "ab"), None]]))
        self.assertEqual(form.picture(), ("ab", "bab", ("",), (((0, "ab"), None),)))

    def test_what_goes_round(self):
        # What is written on the ring is written a turn earlier where all that comes begins so.
        form = least_form(Rewriter("ab", "", ["ab", None], [[(1, "ab"), None], [(0, "ab"), None]]))
        self.assertEqual(form.picture(), ("ab", "ab", ("", None), (((1, "abab"), None), ((0, ""), None))))

    def test_letters_that_lead_to_no_live_state_have_nothing(self):
        form = least_form(Rewriter("ab", "", ["", None, None], [[(0, "a"), (1, "b")], [(2, "ab"), (1, "a")], [None, (1, "")]]))
        self.assertEqual(form.picture(), ("ab", "", ("",), (((0, "a"), None),)))
        # What is written on the way there does not count for what is common.
        form = least_form(Rewriter("ab", "", ["a", None], [[(0, "a"), (1, "b")], [None, None]]))
        self.assertEqual(form.picture(), ("ab", "a", ("",), (((0, "a"), None),)))

    def test_states_that_nothing_leads_to(self):
        form = least_form(Rewriter("ab", "", ["", "a", ""], [[(2, "a"), None], [(0, "b"), (1, "")], [(2, "b"), (0, "b")]]))
        self.assertEqual(form.picture(), ("ab", "", ("", ""), (((1, "a"), None), ((1, "b"), (0, "b")))))

    def test_states_in_the_order_of_the_least_texts(self):
        rows = [[(3, ""), (1, "")], [(2, "b"), (0, "")], [None, None], [(0, "a"), (2, "aa")]]
        form = least_form(Rewriter("ab", "", ["", "a", "bb", None], rows))
        other = least_form(Rewriter("ba", "", ["", "a", "bb", None], [[row[1], row[0]] for row in rows]))
        self.assertEqual(state_behind(form, "a")[0], 1)
        self.assertEqual(state_behind(form, "b")[0], 2)
        self.assertEqual(state_behind(other, "b")[0], 1)
        self.assertEqual(state_behind(other, "a")[0], 2)
        for text in texts_up_to("ab", 5):
            self.assertEqual(form.rewrite(text), other.rewrite(text))

    def test_rewriters_that_refuse_every_text(self):
        for rewriter in (Rewriter("ab", "", [None], [[None, None]]), Rewriter("ab", "ab", [None], [[(0, "a"), (0, "b")]]),
                         Rewriter("ab", "b", [None, None, "a"], [[(1, ""), None], [(0, "b"), (1, "")], [(0, ""), (2, "")]])):
            self.assertEqual(least_form(rewriter).picture(), REFUSING)
        self.assertEqual(least_form(Rewriter("bca", "c", [None], [[None] * 3])).picture(),
                         ("bca", "", (None,), ((None, None, None),)))

    def test_ends_alone_that_differ(self):
        rows = [[(1, "a"), (1, "b")], [(0, "a"), (0, "b")]]
        self.assertEqual(len(least_form(Rewriter("ab", "", ["", ""], rows)).finals), 1)
        self.assertEqual(least_form(Rewriter("ab", "", ["", "a"], rows)).picture(),
                         ("ab", "", ("", "a"), (((1, "a"), (1, "b")), ((0, "a"), (0, "b")))))
        self.assertEqual(least_form(Rewriter("ab", "", ["", None], rows)).picture(),
                         ("ab", "", ("", None), (((1, "a"), (1, "b")), ((0, "a"), (0, "b")))))
        self.assertEqual(len(least_form(Rewriter("ab", "", [None, None], rows)).finals), 1)

    def test_many_states(self):
        word = "abababab"
        form = least_form(replacing("ab", word, "b"))
        self.assertEqual(len(form.finals), 8)
        self.assertEqual(form.rewrite("ab" * 9), "b" + "b" + "ab")
        ring = Rewriter("ab", "", ["a" * 50] + [None] * 199, [[((state + 1) % 200, "a"), None] for state in range(200)])
        form = least_form(ring)
        self.assertEqual(form.lead, "a" * 50)
        self.assertEqual(form.finals, ("",) + (None,) * 199)
        self.assertEqual([row[0] for row in form.table], [(1, "a" * 200)] + [((state + 1) % 200, "") for state in range(1, 200)])

    def test_the_example(self):
        self.assertEqual(
            least_form(Rewriter("ab", "", ["", "a"], [[(1, "b"), None], [(0, "ab"), None]])).picture(),
            ("ab", "", ("", ""), (((1, "ba"), None), ((0, "b"), None))))

    def test_no_errors(self):
        self.assertIsNone(reason(least_form, Rewriter("a", "", [None], [[None]])))


if __name__ == "__main__":
    unittest.main()
