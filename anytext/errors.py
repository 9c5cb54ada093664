"""The errors of the package; each has the attribute `what`."""


class AnytextError(ValueError):
    """The base class of all errors of the package."""

    def __init__(self, what=None):
        self.what = what


class LetterError(AnytextError):
    """Something is wrong with letters or texts."""


class PatternError(AnytextError):
    """Something is wrong with a pattern."""


class SizeError(AnytextError):
    """Something is larger than it may be."""


class MachineError(AnytextError):
    """Something is wrong with a machine or a rewriter."""


class ProgramError(AnytextError):
    """Something is wrong with a program, or with what it names."""


class WorkshopError(AnytextError):
    """A workshop cannot make a change."""


class RecordError(AnytextError):
    """Something is wrong with a record."""


class BadAlphabet(LetterError):
    """The string is no alphabet."""


class BadText(LetterError):
    """The string is no text over the alphabet."""


class BadPattern(PatternError):
    """The notation of a pattern has a fault at this place."""


class TooLarge(SizeError):
    """What was read goes beyond this limit."""


class BadMachine(MachineError):
    """The parts do not make a machine."""


class BadRewriter(MachineError):
    """The parts do not make a rewriter."""


class BadLine(ProgramError):
    """The notation of a program has a fault at this place."""


class BadRecipe(ProgramError):
    """The recipe has a fault at the word with this index."""


class BadName(ProgramError):
    """The string is no name."""


class NameTaken(ProgramError):
    """The name stands for something else already."""


class UnknownName(ProgramError):
    """Nothing has this name."""


class TooMany(ProgramError):
    """There are too many of these, or none where one is needed."""


class WrongCount(ProgramError):
    """As many as this were passed, but another number is needed."""


class InUse(WorkshopError):
    """The thing with this kind and name needs what should be dropped."""


class NothingLeft(WorkshopError):
    """There is no change to undo, or none to do again."""


class BadRecord(RecordError):
    """The record has a fault at this place."""
