"""Reading recipes of rewriters."""

from anytext.errors import BadRecipe
from anytext.letters.alphabet import is_text
from anytext.machines.build import machine_of
from anytext.patterns.reader import read_pattern
from anytext.rewriters.chain import in_turn
from anytext.rewriters.form import least_form
from anytext.rewriters.makers import after_first, before_first, by_letters, only, replacing

STEP_WORDS = ("letters", "replace", "before", "after", "only")
LONGEST_WORD = 8
LONGEST_TEXT = 20
EMPTY_TEXT = "()"


def read_recipe(letters, text):
    """Returns a rewriter that does what the recipe tells. Raises BadRecipe, or what reading a pattern raises."""
    steps = RecipeReader(letters, text.split(" ")).steps()
    found = _rewriter_of(letters, steps[0])
    for step in steps[1:]:
        # The least form has the fewest states, so that many steps do not become too many states.
        found = least_form(in_turn(found, _rewriter_of(letters, step)))
    return found


def _rewriter_of(letters, step):
    """Returns the rewriter of a step that was read."""
    kind = step[0]
    if kind == "letters":
        return by_letters(letters, dict(step[1]))
    if kind == "replace":
        return replacing(letters, step[1], step[2])
    if kind == "before":
        return before_first(letters, step[1])
    if kind == "after":
        return after_first(letters, step[1])
    return only(machine_of(letters, step[1]))


class RecipeReader:
    """Goes through the words of a recipe from the left."""

    def __init__(self, letters, words):
        self.letters = letters
        self.words = words
        self.index = 0

    def word(self):
        """Returns the next word, which must be there."""
        if self.index == len(self.words):
            raise BadRecipe(len(self.words))
        return self.words[self.index]

    def take(self, fits):
        """Returns the next word and goes on behind it. It must be one that fits."""
        word = self.word()
        if not fits:
            raise BadRecipe(self.index)
        self.index += 1
        return word

    def steps(self):
        """Reads all of the recipe. A step is its first word and what was told for it."""
        found = [self.step()]
        while self.index < len(self.words):
            self.take(self.word() == "then")
            found.append(self.step())
        return found

    def step(self):
        """Reads a step."""
        kind = self.take(self.word() in STEP_WORDS)
        if kind == "letters":
            return (kind, self.pairs())
        if kind == "only":
            return (kind, self.pattern())
        word = self.take(self.is_text_of(self.word(), LONGEST_WORD))
        if kind == "replace":
            self.take(self.word() == "by")
            return (kind, word, self.written())
        return (kind, word)

    def is_text_of(self, word, most):
        """Tells whether the word is a text of 1 to so many letters."""
        return 1 <= len(word) <= most and is_text(self.letters, word)

    def written(self):
        """Reads a text to write."""
        word = self.word()
        self.take(word == EMPTY_TEXT or self.is_text_of(word, LONGEST_TEXT))
        return "" if word == EMPTY_TEXT else word

    def pattern(self):
        """Reads the notation of a pattern."""
        found = read_pattern(self.letters, self.word())
        self.index += 1
        return found

    def pairs(self):
        """Reads the pairs of a letter and a text, perhaps none. What is no pair must be `then`."""
        found = []
        while self.index < len(self.words) and self.words[self.index] != "then":
            word = self.word()
            known = word[:1] in [letter for letter, _ in found]
            fits = word[1:2] == ">" and is_text(self.letters, word[:1]) and not known
            text = word[2:]
            self.take(fits and len(text) <= LONGEST_TEXT and is_text(self.letters, text))
            found.append((word[0], text))
        return tuple(found)
