"""Point 0.6 and the list of anytext/errors.py."""

import unittest

from anytext import errors

FAMILIES = {
    "LetterError": ("BadAlphabet", "BadText"),
    "PatternError": ("BadPattern",),
    "SizeError": ("TooLarge",),
    "MachineError": ("BadMachine", "BadRewriter"),
    "ProgramError": ("BadLine", "BadRecipe", "BadName", "NameTaken", "UnknownName", "TooMany", "WrongCount"),
    "WorkshopError": ("InUse", "NothingLeft"),
    "RecordError": ("BadRecord",),
}


class ErrorsTest(unittest.TestCase):
    def test_the_base_class(self):
        self.assertEqual(errors.AnytextError.__bases__, (ValueError,))

    def test_families_are_direct_subclasses_of_the_base_class(self):
        for family in FAMILIES:
            self.assertEqual(getattr(errors, family).__bases__, (errors.AnytextError,))

    def test_each_error_is_of_its_family_and_of_no_other(self):
        for family, names in FAMILIES.items():
            for name in names:
                error = getattr(errors, name)("told")
                self.assertEqual(type(error).__bases__, (getattr(errors, family),))
                held = [other for other in FAMILIES if isinstance(error, getattr(errors, other))]
                self.assertEqual(held, [family])

    def test_there_are_no_other_errors(self):
        listed = {"AnytextError", *FAMILIES, *[name for names in FAMILIES.values() for name in names]}
        defined = {name for name, worth in vars(errors).items() if isinstance(worth, type)}
        self.assertEqual(defined, listed)

    def test_what(self):
        for names in list(FAMILIES.values()) + [tuple(FAMILIES), ("AnytextError",)]:
            for name in names:
                kind = getattr(errors, name)
                self.assertIsNone(kind().what)
                self.assertIsNone(kind(None).what)
                self.assertEqual(kind(12).what, 12)
                self.assertEqual(kind(("claim", "a")).what, ("claim", "a"))
                self.assertEqual(kind(what="x").what, "x")


if __name__ == "__main__":
    unittest.main()
