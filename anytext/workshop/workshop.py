"""Workshops."""

from anytext.claims.decide import decide
from anytext.errors import BadName, InUse, NothingLeft, UnknownName
from anytext.letters.alphabet import check_alphabet
from anytext.programs.book import is_name
from anytext.workshop.readings import Readings


class Workshop:
    """Named patterns, recipes, programs and claims under edits, with the answers to the claims."""

    def __init__(self, letters):
        check_alphabet(letters)
        self._readings = Readings(letters)
        # The things behind each change; what undoing and doing again lead to. None of these dicts is changed.
        self._states = [{}]
        self._place = 0
        # For each name of a claim the answer that was told last, and the meanings that counted then.
        self._answers = {}

    def set_pattern(self, name, notation):
        """Sets a pattern."""
        self._set(("pattern", name), notation)

    def set_recipe(self, name, notation):
        """Sets a recipe."""
        self._set(("recipe", name), notation)

    def set_program(self, name, notation):
        """Sets a program."""
        self._set(("program", name), notation)

    def set_claim(self, name, program, wanted, output, refusals=True):
        """Sets a claim."""
        self._set(("claim", name), (program, tuple(wanted), output, refusals))

    def drop(self, kind, name):
        """Takes a thing away, which no other one may need."""
        key = (kind, name)
        self.meaning(kind, name)
        things = self._things()
        for other in sorted(things):
            if key in self._readings.needs(things, other):
                raise InUse(other)
        self._change({other: things[other] for other in things if other != key})

    def undo(self):
        """Takes the last change back that was not taken back."""
        if self._place == 0:
            raise NothingLeft(None)
        self._place -= 1

    def redo(self):
        """Makes the change again that was taken back last."""
        if self._place == len(self._states) - 1:
            raise NothingLeft(None)
        self._place += 1

    def names(self, kind):
        """Returns the ascending list of the names of the things of this kind."""
        return sorted([name for other, name in self._things() if other == kind])

    def meaning(self, kind, name):
        """Returns the notation of the thing, or for a claim the tuple of what it was set to."""
        if (kind, name) not in self._things():
            raise UnknownName(name)
        return self._things()[(kind, name)]

    def answer(self, name):
        """Returns the answer to the claim."""
        self.meaning("claim", name)
        if not self._has_answer(name):
            book, program, claim = self._readings.claim_parts(self._things(), name)
            self._answers[name] = (self._what_counts(name), decide(book, program, claim))
        return self._answers[name][1]

    def unanswered(self):
        """Returns the ascending list of the names of the claims for which no kept answer counts."""
        return [name for name in self.names("claim") if not self._has_answer(name)]

    def picture(self):
        """Returns the pairs of a key and a meaning of all things."""
        things = self._things()
        return tuple([(key, things[key]) for key in sorted(things)])

    def _things(self):
        """Returns the things as they stand."""
        return self._states[self._place]

    def _set(self, key, meaning):
        """Sets the thing with this key, if all things are in order then."""
        if not is_name(key[1]):
            raise BadName(key[1])
        things = {other: self._things()[other] for other in self._things()}
        things[key] = meaning
        self._readings.check(things, key)
        self._change(things)

    def _change(self, things):
        """Makes these the things. What was taken back before cannot be made again then."""
        del self._states[self._place + 1:]
        self._states.append(things)
        self._place += 1

    def _has_answer(self, name):
        """Tells whether the kept answer under the name of the claim counts."""
        return name in self._answers and self._answers[name][0] == self._what_counts(name)

    def _what_counts(self, name):
        """Returns the meanings of the claim and of all that it needs."""
        things = self._things()
        keys = [("claim", name)] + self._readings.all_needs(things, name)
        return [(key, things[key]) for key in keys]
