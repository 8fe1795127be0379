"""The rules of the language subset that a look at the syntax can tell."""

import ast
import builtins
import pathlib
import re
import unittest

PACKAGE = pathlib.Path(__file__).resolve().parent.parent / "turnsandkeys"
BUILTINS = set(
    "len range enumerate zip min max sum abs sorted reversed int str bool bytes list tuple dict set frozenset isinstance "
    "ord repr any all divmod iter next map Exception ValueError TypeError KeyError IndexError LookupError ZeroDivisionError "
    "ArithmeticError OverflowError RuntimeError NotImplementedError AttributeError StopIteration NotImplemented "
    "super property staticmethod classmethod".split()
)
LIBRARY = {"heapq", "math"}
DUNDERS = set(
    "init eq repr str len enter exit call iter lt le gt ge ne add sub mul floordiv mod pow and or xor lshift rshift "
    "neg pos invert abs bool contains getitem setitem iadd isub imul".split()
)
WORDS = re.compile(r"\b(register|mro|elements|open|input|law|eval|exec|getattr|setattr|hasattr|globals|locals|vars|id|dir)\b")
LOUD = ("__init__", "__enter__", "__exit__", "__call__", "__iter__", "__setitem__")
COMPREHENSIONS = (ast.ListComp, ast.DictComp, ast.SetComp)


def files():
    return sorted(PACKAGE.glob("*.py"))


def trees():
    return [(path, ast.parse(path.read_text())) for path in files()]


def bound_names(tree):
    found = set()
    for node in ast.walk(tree):
        if isinstance(node, (ast.FunctionDef, ast.ClassDef)):
            found.add(node.name)
        elif isinstance(node, ast.arg):
            found.add(node.arg)
        elif isinstance(node, ast.Name) and not isinstance(node.ctx, ast.Load):
            found.add(node.id)
        elif isinstance(node, ast.alias):
            found.add(node.name)
        elif isinstance(node, ast.ExceptHandler) and node.name:
            found.add(node.name)
    return found


def comprehension_targets(node):
    """The names that a comprehension itself assigns, not those of comprehensions inside it."""
    return [
        target for part in node.generators for target in ast.walk(part.target) if isinstance(target, ast.Name)
    ]


def names_of(targets):
    return {target.id for target in targets} - {"_"}


def own_functions():
    """All functions and methods of the package by their names, with all that have one name."""
    found = {}
    for _, tree in trees():
        for node in ast.walk(tree):
            if isinstance(node, ast.FunctionDef):
                found.setdefault(node.name, []).append(node)
            if isinstance(node, ast.ClassDef):
                made = [row for row in node.body if isinstance(row, ast.FunctionDef) and row.name == "__init__"]
                found.setdefault(node.name, []).extend(made)
    return found


def quiet_functions():
    """Properties that are read, operators, and what L5 counts among them."""
    found = []
    for name, nodes in own_functions().items():
        for node in nodes:
            words = [word.id for word in node.decorator_list if isinstance(word, ast.Name)]
            if "property" in words or (name.strip("_") in DUNDERS and name not in LOUD):
                found.append(node)
    return found


def names_in(function):
    """Whatever a function could call or read, by its name."""
    names = {node.id for node in ast.walk(function) if isinstance(node, ast.Name)}
    return names | {node.attr for node in ast.walk(function) if isinstance(node, ast.Attribute)}


class LanguageTest(unittest.TestCase):
    def test_files(self):
        found = [path for path in PACKAGE.iterdir() if path.name != "__pycache__"]
        self.assertEqual(sorted(found), files())
        self.assertLessEqual(len(found), 100)
        for path in found:
            self.assertRegex(path.name, r"^[a-z0-9_]+\.py$")

    def test_sizes_and_characters(self):
        for path in files():
            text = path.read_text()
            self.assertRegex(text, r"\A[ -~\n]*\Z", path.name)
            self.assertLessEqual(len(text.splitlines()), 399, path.name)
            self.assertLessEqual(max(map(len, text.splitlines())), 120, path.name)

    def test_functions_are_short(self):
        for path, tree in trees():
            for node in ast.walk(tree):
                if isinstance(node, ast.FunctionDef):
                    self.assertLessEqual(node.end_lineno - node.lineno + 1, 40, f"{path.name}: {node.name}")

    def test_imports(self):
        for path, tree in trees():
            for node in ast.walk(tree):
                self.assertNotIsInstance(node, ast.Import, path.name)
                if isinstance(node, ast.ImportFrom):
                    self.assertEqual(node.level, 0, path.name)
                    self.assertTrue(node.module in LIBRARY or node.module.startswith("turnsandkeys."), node.module)
                    self.assertTrue(all(alias.name != "*" and alias.asname is None for alias in node.names))

    def test_imports_name_the_file_that_defines(self):
        defined = {}
        for path, tree in trees():
            tops = {node.name for node in tree.body if isinstance(node, (ast.FunctionDef, ast.ClassDef))}
            tops |= {target.id for node in tree.body if isinstance(node, ast.Assign) for target in node.targets}
            defined["turnsandkeys." + path.stem] = tops
        for path, tree in trees():
            used = {node.id for node in ast.walk(tree) if isinstance(node, ast.Name)}
            for node in ast.walk(tree):
                if isinstance(node, ast.ImportFrom) and node.module not in LIBRARY:
                    for alias in node.names:
                        self.assertIn(alias.name, defined[node.module], path.name)
                        self.assertIn(alias.name, used, path.name)

    def test_builtins(self):
        for path, tree in trees():
            bound = bound_names(tree)
            self.assertEqual(bound & set(dir(builtins)), set(), path.name)
            for node in ast.walk(tree):
                if isinstance(node, ast.Name) and node.id not in bound:
                    self.assertIn(node.id, BUILTINS, f"{path.name}:{node.lineno}")

    def test_nothing_that_is_barred(self):
        barred = (
            ast.Global, ast.AsyncFunctionDef, ast.AsyncFor, ast.AsyncWith, ast.Await, ast.Div, ast.GeneratorExp,
            ast.MatMult, ast.TryStar,
        )
        for path, tree in trees():
            for node in ast.walk(tree):
                self.assertNotIsInstance(node, barred, f"{path.name}: {ast.dump(node)[:80]}")
                if isinstance(node, ast.Constant):
                    self.assertNotIsInstance(node.value, (float, complex), path.name)
                    if isinstance(node.value, str):
                        self.assertNotIn("%", node.value, path.name)
                if isinstance(node, ast.FunctionDef) and node.name.startswith("__"):
                    self.assertIn(node.name.strip("_"), DUNDERS, path.name)
                if isinstance(node, ast.Compare) and any(isinstance(op, (ast.Is, ast.IsNot)) for op in node.ops):
                    self.assertIsInstance(node.comparators[0], ast.Constant, path.name)
                if isinstance(node, ast.Attribute):
                    self.assertIsNone(WORDS.fullmatch(node.attr), path.name)
            for name in bound_names(tree):
                self.assertIsNone(WORDS.fullmatch(name), path.name)

    def test_reversed_takes_lists(self):
        for path, tree in trees():
            for node in ast.walk(tree):
                if isinstance(node, ast.Call) and isinstance(node.func, ast.Name) and node.func.id == "reversed":
                    [given] = node.args
                    self.assertIsInstance(given, ast.Call, f"{path.name}:{node.lineno}")
                    self.assertIn(given.func.id, ("list", "tuple", "sorted", "range"), f"{path.name}:{node.lineno}")

    def test_no_parameter_or_variable_hides_an_import_or_a_class(self):
        for path, tree in trees():
            tops = {node.name for node in tree.body if isinstance(node, ast.ClassDef)}
            tops |= {alias.name for node in tree.body if isinstance(node, ast.ImportFrom) for alias in node.names}
            for node in ast.walk(tree):
                if isinstance(node, ast.arg):
                    self.assertNotIn(node.arg, tops, f"{path.name}:{node.lineno}")
                if isinstance(node, ast.Name) and not isinstance(node.ctx, ast.Load):
                    self.assertNotIn(node.id, tops, f"{path.name}:{node.lineno}")

    def test_variables_of_comprehensions_have_names_of_their_own(self):
        for path, tree in trees():
            for function in [node for node in ast.walk(tree) if isinstance(node, (ast.FunctionDef, ast.Lambda))]:
                inside = [node for node in ast.walk(function) if isinstance(node, COMPREHENSIONS)]
                variables = [target for node in inside for target in comprehension_targets(node)]
                taken = {node.arg for node in ast.walk(function.args) if isinstance(node, ast.arg)}
                for node in ast.walk(function):
                    if isinstance(node, ast.Name) and isinstance(node.ctx, ast.Store) and node not in variables:
                        taken.add(node.id)
                for node in inside:
                    found = names_of(comprehension_targets(node))
                    self.assertEqual(found & taken, set(), f"{path.name}:{node.lineno}")
                    deeper = [other for other in ast.walk(node) if other is not node and other in inside]
                    self.assertTrue(all(not found & names_of(comprehension_targets(other)) for other in deeper))

    def test_no_two_files_import_from_each_other(self):
        needs = {}
        for path, tree in trees():
            modules = {node.module for node in ast.walk(tree) if isinstance(node, ast.ImportFrom)}
            needs["turnsandkeys." + path.stem] = {module for module in modules if module not in LIBRARY}
        while needs:
            free = [module for module in needs if not needs[module] & set(needs)]
            self.assertNotEqual(free, [], f"a ring of imports: {sorted(needs)}")
            for module in free:
                del needs[module]

    def test_no_name_is_a_method_and_an_attribute(self):
        methods, attributes = set(), set()
        for _, tree in trees():
            for node in ast.walk(tree):
                if isinstance(node, ast.ClassDef):
                    rows = [row for row in node.body if isinstance(row, ast.FunctionDef)]
                    # A property and its setter are read and assigned like an attribute.
                    methods |= {row.name for row in rows if not row.decorator_list}
                if isinstance(node, ast.Attribute) and isinstance(node.ctx, ast.Store):
                    attributes.add(node.attr)
        self.assertEqual(methods & attributes, set())

    def test_properties_and_operators_run_no_generator(self):
        functions = own_functions()
        waiting = quiet_functions()
        self.assertIn("floor", [node.name for node in waiting])
        seen = set(waiting)
        while waiting:
            function = waiting.pop()
            for node in ast.walk(function):
                self.assertNotIsInstance(node, (ast.Yield, ast.YieldFrom), function.name)
            for name in names_in(function):
                fresh = [other for other in functions.get(name, []) if other not in seen]
                waiting.extend(fresh)
                seen.update(fresh)


if __name__ == "__main__":
    unittest.main()
