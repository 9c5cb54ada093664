"""The rules of ../shared/LANGUAGE.md that a program can tell; the names of the tests say which."""

import ast
import builtins
import pathlib
import re
import unittest

ROOT = pathlib.Path(__file__).resolve().parent.parent
PACKAGE = ROOT / "anytext"
FILES = sorted(PACKAGE.rglob("*.py"))
TREES = {path: ast.parse(path.read_text()) for path in FILES}

LIBRARY = {
    "heapq": {"heappush", "heappop", "heapify", "heapreplace", "heappushpop"},
    "math": {"gcd", "lcm", "isqrt", "comb", "perm", "factorial"},
    "itertools": {"product", "combinations", "permutations", "chain", "accumulate", "pairwise", "islice",
                  "zip_longest"},
    "collections": {"defaultdict", "deque"},
}
BUILTINS = set(
    "len range enumerate zip min max sum abs sorted reversed int str bool list tuple dict set isinstance ord repr any "
    "all divmod pow getattr hasattr setattr map iter next type super Exception ValueError TypeError KeyError "
    "IndexError LookupError ZeroDivisionError ArithmeticError OverflowError RuntimeError NotImplementedError "
    "AttributeError StopIteration NotImplemented".split())
METHODS = set(
    "append clear copy count endswith extend find get index insert isalnum isalpha isdigit islower isspace isupper "
    "items join keys ljust lower lstrip partition pop remove replace reverse rfind rjust rpartition rsplit rstrip "
    "setdefault split splitlines startswith strip update upper values zfill bit_length sort add discard "
    "appendleft popleft".split())
# The names of all that values of Python's own have; L25 lets no method of such a name be handed on.
BUILTIN_KINDS = (
    str, int, bool, float, complex, list, tuple, dict, set, frozenset, bytes, range, slice, BaseException, type(None),
    type({}.keys()), type({}.values()), type({}.items()))
BUILTIN_NAMES = {name for kind in BUILTIN_KINDS for name in dir(kind)}
BARRED = set(
    "register mro elements open input law version_info with_traceback add_note breakpoint compile copyright delattr "
    "dir eval exec exit gc globals help id importlib license locals os quit vars sys".split())
BARRED_WORDS = re.compile(
    r"\b(type|typing|enum|Enum|IntEnum|Flag|Generic|Protocol|ABC|namedtuple|NamedTuple|TypedDict)\b|dataclass|overload")
# What L12 keeps from all names.
BARRED_NAMES = re.compile(
    r"(_wall|_pe_|_dcw_|_enum_|_cm_|_twin_re_|_lay_|_law_|_stub_|_sre|_WallAttr)"
    r"|_(cold|tuplegetter|outside|record|written_out|member_names)[0-9_]*$")
STATEMENTS = (
    ast.Assign, ast.AugAssign, ast.AnnAssign, ast.If, ast.While, ast.For, ast.Return, ast.Break, ast.Continue,
    ast.Pass, ast.Raise, ast.Assert, ast.Delete, ast.Nonlocal, ast.Match, ast.With, ast.Try, ast.Expr,
    ast.FunctionDef, ast.ClassDef, ast.ImportFrom)
DOUBLE_UNDERSCORES = {"__init__", "__eq__", "__repr__", "__str__", "__len__"}


def nodes(*kinds):
    """All nodes of these kinds, each with its place."""
    for path, tree in TREES.items():
        for node in ast.walk(tree):
            if isinstance(node, kinds):
                yield f"{path.relative_to(ROOT)}:{getattr(node, 'lineno', 0)}", node


def docstrings():
    """The numbers of the nodes that are docstrings."""
    found = set()
    for _, node in nodes(ast.Module, ast.ClassDef, ast.FunctionDef):
        if node.body and isinstance(node.body[0], ast.Expr) and isinstance(node.body[0].value, ast.Constant):
            found.add(id(node.body[0].value))
    return found


def bound_names():
    """All names that something is bound to, with their places."""
    for place, node in nodes(ast.FunctionDef, ast.ClassDef, ast.arg, ast.Name, ast.alias):
        if isinstance(node, (ast.FunctionDef, ast.ClassDef, ast.alias)):
            yield place, node.name
        elif isinstance(node, ast.arg):
            yield place, node.arg
        elif not isinstance(node.ctx, ast.Load):
            yield place, node.id


def module_path(name):
    """The file of a module of the package."""
    return ROOT / (name.replace(".", "/") + ".py")


def methods_of(trees):
    """The names of all methods of the classes in the trees."""
    classes = [node for tree in trees for node in ast.walk(tree) if isinstance(node, ast.ClassDef)]
    return {part.name for node in classes for part in node.body if isinstance(part, ast.FunctionDef)}


def handed_on(trees):
    """What is read without a call under the name of a builtin value's method or attribute: file, line and name.

    Off `self` only own things are read, so an own attribute may have such a name there, but no method of the package.
    Elsewhere nobody can tell what it is that is read.
    """
    methods = methods_of(trees.values())
    found = []
    for path, tree in trees.items():
        called = {id(node.func) for node in ast.walk(tree) if isinstance(node, ast.Call)}
        for node in ast.walk(tree):
            if isinstance(node, ast.Attribute) and isinstance(node.ctx, ast.Load) and id(node) not in called:
                off_self = isinstance(node.value, ast.Name) and node.value.id == "self"
                if node.attr in BUILTIN_NAMES and (node.attr in methods or not off_self):
                    found.append((str(path), node.lineno, node.attr))
    return sorted(found)


class LanguageTest(unittest.TestCase):
    def test_files_l1_l14(self):
        for path in PACKAGE.rglob("*"):
            if "__pycache__" in path.parts:
                continue
            self.assertRegex(path.name, r"^[a-z0-9_]+(\.py)?$")
            if path.is_dir():
                self.assertTrue((path / "__init__.py").is_file(), path)
                self.assertFalse(path.with_suffix(".py").exists(), path)
        self.assertLessEqual(len(FILES), 100)

    def test_size_and_characters_l10_l14(self):
        for path in FILES:
            text = path.read_text()
            self.assertLessEqual(len(text.splitlines()), 399, path)
            self.assertEqual([line for line in text.splitlines() if len(line) > 120], [], path)
            self.assertEqual([sign for sign in text if sign != "\n" and not " " <= sign <= "~"], [], path)
        for place, node in nodes(ast.FunctionDef):
            self.assertLessEqual(node.end_lineno - node.lineno + 1, 40, place)

    def test_imports_l2_l16(self):
        for place, node in nodes(ast.Import):
            self.fail(place)
        for place, node in nodes(ast.ImportFrom):
            self.assertEqual(node.level, 0, place)
            names = [alias.name for alias in node.names]
            self.assertEqual([alias.asname for alias in node.names], [None] * len(names), place)
            if node.module in LIBRARY:
                self.assertLessEqual(set(names), LIBRARY[node.module], place)
            else:
                tree = TREES[module_path(node.module)]
                defined = {part.name for part in tree.body if isinstance(part, (ast.FunctionDef, ast.ClassDef))}
                defined |= {part.targets[0].id for part in tree.body if isinstance(part, ast.Assign)}
                self.assertLessEqual(set(names), defined, place)

    def test_no_circles_of_imports_l16(self):
        needs = {}
        for path, tree in TREES.items():
            modules = [node.module for node in tree.body if isinstance(node, ast.ImportFrom)]
            needs[path] = [module_path(name) for name in modules if name not in LIBRARY]
        while needs:
            free = [path for path in needs if not any(other in needs for other in needs[path])]
            self.assertNotEqual(free, [], sorted(needs))
            for path in free:
                del needs[path]

    def test_module_level_l3(self):
        known = docstrings()
        for path, tree in TREES.items():
            bound = []
            for node in tree.body:
                if isinstance(node, ast.Expr):
                    self.assertIn(id(node.value), known, path)
                elif isinstance(node, ast.Assign):
                    self.assertEqual(len(node.targets), 1, path)
                    bound.append(node.targets[0].id)
                    self.assertFalse([part for part in ast.walk(node) if isinstance(part, (ast.Call, ast.Set))], path)
                elif isinstance(node, ast.ImportFrom):
                    bound.extend([alias.name for alias in node.names])
                else:
                    self.assertIsInstance(node, (ast.FunctionDef, ast.ClassDef), path)
                    bound.append(node.name)
            self.assertEqual(len(bound), len(set(bound)), path)

    def test_statements_and_expressions_l6_l7(self):
        for place, node in nodes(ast.stmt):
            self.assertIsInstance(node, STATEMENTS, place)
        for place, node in nodes(ast.Await, ast.Div, ast.MatMult, ast.GeneratorExp, ast.Pow):
            self.fail(place)
        for place, node in nodes(ast.Constant):
            self.assertNotIsInstance(node.value, (float, complex, bytes), place)
        for place, node in nodes(ast.ExceptHandler):
            self.assertIsNotNone(node.type, place)

    def test_no_decorators_and_plain_defaults_l4(self):
        for place, node in nodes(ast.FunctionDef, ast.ClassDef):
            self.assertEqual(node.decorator_list, [], place)
        for place, node in nodes(ast.arguments):
            for default in node.defaults + [worth for worth in node.kw_defaults if worth is not None]:
                self.assertIsInstance(default, ast.Constant, place)

    def test_builtins_l8(self):
        for place, node in nodes(ast.Name):
            if hasattr(builtins, node.id):
                self.assertIn(node.id, BUILTINS, place)

    def test_names_l12_l15_l17(self):
        for place, name in bound_names():
            if name not in DOUBLE_UNDERSCORES:
                self.assertFalse(hasattr(builtins, name), f"{place} {name}")
                self.assertNotIn(name, BARRED, place)
                self.assertRegex(name, r"^_?[A-Za-z][A-Za-z0-9_]*$|^_$", place)
                self.assertIsNone(BARRED_NAMES.match(name), place)
        for place, node in nodes(ast.Attribute):
            self.assertNotIn(node.attr, BARRED, place)
            self.assertFalse(node.attr.startswith("__"), place)

    def test_no_name_means_two_things_l15(self):
        for path, tree in TREES.items():
            outer = {alias.name for node in tree.body if isinstance(node, ast.ImportFrom) for alias in node.names}
            outer |= {node.name for node in tree.body if isinstance(node, ast.ClassDef)}
            for node in ast.walk(tree):
                if isinstance(node, ast.arg):
                    self.assertNotIn(node.arg, outer, f"{path}:{node.lineno}")
                if isinstance(node, ast.Name) and not isinstance(node.ctx, ast.Load):
                    self.assertNotIn(node.id, outer, f"{path}:{node.lineno}")

    def test_methods_l25(self):
        barred = {name for kind in (str, int, list, tuple, dict, set, bytes) for name in dir(kind)} - METHODS
        for place, node in nodes(ast.Attribute):
            self.assertNotIn(node.attr, barred, place)
        for place, node in nodes(ast.ClassDef):
            for part in node.body:
                if isinstance(part, ast.FunctionDef) and part.name not in DOUBLE_UNDERSCORES:
                    self.assertNotIn(part.name, barred | METHODS, place)

    def test_no_method_is_handed_on_under_a_builtin_name_l25(self):
        self.assertEqual(handed_on(TREES), [])

    def test_builtin_names_are_found_where_they_are_handed_on_l25(self):
        box = ast.parse("class Box:\n    def low(self):\n        return self.n\n" + "".join(
            f"    def {name}(self):\n        return 1\n" for name in ("step", "start", "stop", "count", "real")))
        for taken in ("self.step", "box.step", "Box.stop", "self.start", "self.count", "box.real", "rows.append"):
            name = taken.split(".")[1]
            for line in (f"f = {taken}", f"told(1, {taken})", f"told(key={taken})", f"x = [{taken}]",
                         f"({taken} if n else None)(1)", f"{taken}.size", f"told(lambda: {taken})"):
                other = ast.parse(f"def hand(self, box, rows, n):\n    {line}\n")
                self.assertEqual(handed_on({"box": box, "other": other}), [("other", 2, name)], line)
        for line in ("self.step(1)", "box.start()", "rows.append(self.index)", "f = self.low", "told(box.low)",
                     "self.index = box.count(1)", "self.index += 1", "step = 1", "told(step)"):
            other = ast.parse(f"def hand(self, box, rows, step):\n    {line}\n")
            self.assertEqual(handed_on({"box": box, "other": other}), [], line)

    def test_strings_l17_l27(self):
        known = docstrings()
        for place, node in nodes(ast.Constant):
            if isinstance(node.value, str) and id(node) not in known:
                self.assertNotIn("%", node.value, place)
                self.assertNotRegex(node.value, BARRED_WORDS, place)

    def test_is_l20(self):
        for place, node in nodes(ast.Compare):
            for sign, right in zip(node.ops, node.comparators):
                if isinstance(sign, (ast.Is, ast.IsNot)):
                    self.assertIsInstance(right, ast.Constant, place)

    def test_sets_are_not_gone_through_l24(self):
        for place, node in nodes(ast.For, ast.comprehension):
            made = isinstance(node.iter, (ast.Set, ast.SetComp))
            called = isinstance(node.iter, ast.Call) and isinstance(node.iter.func, ast.Name)
            self.assertFalse(made or (called and node.iter.func.id == "set"), ast.dump(node))


if __name__ == "__main__":
    unittest.main()
