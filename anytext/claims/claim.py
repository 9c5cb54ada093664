"""Claims about programs, and inputs that break them."""

from anytext.errors import UnknownName, WrongCount
from anytext.programs.program import check_program
from anytext.programs.run import run


class Claim:
    """The names of a pattern for each input and of one for the output; it never changes."""

    def __init__(self, inputs, output, refusals=True):
        self.inputs = tuple(inputs)
        self.output = output
        self.refusals = refusals

    def picture(self):
        """Returns all that the claim is made of."""
        return (self.inputs, self.output, self.refusals)


def check_claim(book, program, claim):
    """Raises an error unless the claim is one about the program of the book."""
    check_program(book, program)
    if len(claim.inputs) != len(program.inputs):
        raise WrongCount(len(claim.inputs))
    for name in claim.inputs + (claim.output,):
        if not book.has_pattern(name):
            raise UnknownName(name)


def breaks(book, program, claim, inputs):
    """Tells whether the inputs break the claim."""
    check_claim(book, program, claim)
    word, made = run(book, program, inputs)
    for name, text in zip(claim.inputs, inputs):
        if not book.machine(name).accepts(text):
            return False
    if word == "refuses":
        return not claim.refusals
    return not book.machine(claim.output).accepts(made)
