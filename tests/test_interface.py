"""The interface: each name is defined in its file, with its arguments, and each method in its class."""

import ast
import importlib
import pathlib
import unittest

ROOT = pathlib.Path(__file__).resolve().parent.parent

FUNCTIONS = {
    "letters.alphabet": ("check_alphabet(letters)", "is_text(letters, text)", "check_text(letters, text)",
                         "order_key(letters, text)", "texts_of(letters, length)"),
    "patterns.terms": ("size(pattern)",),
    "patterns.meaning": ("belongs(pattern, text)",),
    "patterns.reader": ("read_pattern(letters, text)",),
    "patterns.printing": ("print_pattern(letters, pattern)",),
    "machines.least": ("least(machine)",),
    "machines.build": ("machine_of(letters, pattern)",),
    "machines.combine": ("both(first, second)", "either(first, second)", "minus(first, second)", "opposite(machine)",
                         "until(machine, state)", "since(machine, state)"),
    "machines.lots": ("reversal(machine)", "chained_texts(first, second)", "repetition(machine)"),
    "machines.search": ("first_text(machine)", "is_empty(machine)", "outside(first, second)", "parting(first, second)",
                        "useful(machine)", "is_finite(machine)"),
    "machines.count": ("count(machine, length)", "place_of(machine, text)", "text_at(machine, place)"),
    "machines.rational": ("pattern_of(machine)",),
    "machines.suite": ("suite(machine, extra)",),
    "rewriters.images": ("domain(rewriter)", "before_image(rewriter, machine)", "after_image(rewriter, machine)"),
    "rewriters.chain": ("in_turn(first, second)",),
    "rewriters.form": ("least_form(rewriter)",),
    "rewriters.same": ("same(first, second)", "judge_same(first, second, paper)"),
    "rewriters.makers": ("by_letters(letters, table)", "replacing(letters, word, by)", "before_first(letters, word)",
                         "after_first(letters, word)", "only(machine)"),
    "rewriters.recipes": ("read_recipe(letters, text)",),
    "programs.book": ("is_name(name)",),
    "programs.program": ("check_program(book, program)",),
    "programs.run": ("run(book, program, inputs)", "texts_on_the_way(book, program, inputs)"),
    "programs.reader": ("read_program(text)",),
    "programs.printing": ("print_program(program)",),
    "programs.simplify": ("simplified(book, program)",),
    "claims.claim": ("check_claim(book, program, claim)", "breaks(book, program, claim, inputs)"),
    "claims.decide": ("decide(book, program, claim)", "breaking(book, program, claim)", "breaking_machine(book, program, claim)"),
    "claims.judge": ("judge(book, program, claim, paper)",),
    "claims.records": ("write_value(value)", "read_value(text)", "write_answer(answer)", "read_answer(text)"),
}
CLASSES = {
    "errors": {"AnytextError": ("__init__(self, what=None)",)},
    "machines.machine": {"Machine": ("__init__(self, letters, accepting, table)", "run(self, text)", "accepts(self, text)",
                                     "picture(self)")},
    "rewriters.rewriter": {"Rewriter": ("__init__(self, letters, lead, finals, table)", "rewrite(self, text)", "picture(self)")},
    "programs.book": {"Book": ("__init__(self, letters, patterns, rewriters)", "has_pattern(self, name)",
                               "has_rewriter(self, name)", "machine(self, name)", "rewriter(self, name)")},
    "programs.program": {"Program": ("__init__(self, inputs, lines, result)", "picture(self)")},
    "claims.claim": {"Claim": ("__init__(self, inputs, output, refusals=True)", "picture(self)")},
    "workshop.workshop": {"Workshop": (
        "__init__(self, letters)", "set_pattern(self, name, notation)", "set_recipe(self, name, notation)",
        "set_program(self, name, notation)", "set_claim(self, name, program, wanted, output, refusals=True)",
        "drop(self, kind, name)", "undo(self)", "redo(self)", "names(self, kind)", "meaning(self, kind, name)",
        "answer(self, name)", "unanswered(self)", "picture(self)")},
}
ERRORS = {
    "AnytextError": ("LetterError", "PatternError", "SizeError", "MachineError", "ProgramError", "WorkshopError", "RecordError"),
    "LetterError": ("BadAlphabet", "BadText"), "PatternError": ("BadPattern",), "SizeError": ("TooLarge",),
    "MachineError": ("BadMachine", "BadRewriter"),
    "ProgramError": ("BadLine", "BadRecipe", "BadName", "NameTaken", "UnknownName", "TooMany", "WrongCount"),
    "WorkshopError": ("InUse", "NothingLeft"), "RecordError": ("BadRecord",),
}


def tree_of(module):
    return ast.parse((ROOT / "anytext" / (module.replace(".", "/") + ".py")).read_text())


def heads(body):
    """The functions that are defined there, each with its arguments."""
    return [f"{node.name}({ast.unparse(node.args)})" for node in body if isinstance(node, ast.FunctionDef)]


class InterfaceTest(unittest.TestCase):
    def test_functions(self):
        for module, wanted in FUNCTIONS.items():
            self.assertLessEqual(set(wanted), set(heads(tree_of(module).body)), module)
            self.assertTrue(importlib.import_module("anytext." + module))

    def test_classes(self):
        for module, classes in CLASSES.items():
            found = {node.name: heads(node.body) for node in tree_of(module).body if isinstance(node, ast.ClassDef)}
            for name, wanted in classes.items():
                self.assertLessEqual(set(wanted), set(found[name]), name)

    def test_errors(self):
        errors = importlib.import_module("anytext.errors")
        self.assertEqual(errors.AnytextError.__bases__, (ValueError,))
        for base, names in ERRORS.items():
            for name in names:
                self.assertEqual(getattr(errors, name).__bases__, (getattr(errors, base),))
                self.assertEqual((getattr(errors, name)().what, getattr(errors, name)(("a", 1)).what), (None, ("a", 1)))

    def test_letters(self):
        alphabet = importlib.import_module("anytext.letters.alphabet")
        small = "abcdefghijklmnopqrstuvwxyz"
        self.assertEqual(alphabet.LETTERS, small + small.upper() + "0123456789" + "<>=:_@#")


if __name__ == "__main__":
    unittest.main()
