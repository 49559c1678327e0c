"""Those rules for the language of the package that can be seen in the text of its files."""

import ast
import builtins
import re
import unittest
from pathlib import Path

PACKAGE = Path(__file__).resolve().parent.parent / "leastcode"
SOURCES = {path.stem: path.read_text(encoding="utf-8") for path in sorted(PACKAGE.glob("*.py"))}
TREES = {name: ast.parse(text) for name, text in SOURCES.items()}

BUILTINS = """len range enumerate zip min max sum abs sorted reversed int str bool list tuple dict set isinstance ord
    repr any all divmod map property classmethod ValueError TypeError AttributeError""".split()
METHODS = """append clear copy count endswith extend find get index insert isalnum isalpha isdigit islower isspace
    isupper items join keys ljust lower lstrip partition pop remove replace reverse rfind rjust rpartition rsplit
    rstrip setdefault split splitlines startswith strip update upper values zfill bit_length""".split()
OPERATORS = """__init__ __eq__ __str__ __len__ __iter__ __pow__ __getitem__""".split()
AT_ONCE = ("any", "all", "min", "max", "sum", "sorted")
NOT_ALLOWED = (ast.Global, ast.AsyncFunctionDef, ast.Await, ast.AsyncFor, ast.AsyncWith, ast.Import, ast.AnnAssign,
               ast.Div, ast.Set)


def nodes(kinds):
    """All nodes of these kinds, with the names of their files."""
    return [(name, node) for name, tree in TREES.items() for node in ast.walk(tree) if isinstance(node, kinds)]


def decorated(node, kind):
    """Whether a function stands under a decorator with this text."""
    return kind in [ast.unparse(part) for part in node.decorator_list]


def methods(node):
    """The functions in the body of a class."""
    return [part for part in node.body if isinstance(part, ast.FunctionDef)]


def classes():
    """All classes of the package: the node, the names of its properties, of those with setters, and of its methods."""
    found = []
    for _, node in nodes(ast.ClassDef):
        properties = {part.name for part in methods(node) if decorated(part, "property")}
        setters = {part.name for part in methods(node) if decorated(part, f"{part.name}.setter")}
        plain = {part.name for part in methods(node)} - properties
        found.append((node, properties, setters, plain))
    return found


def assigned_attributes(tree):
    """The names of the attributes that are assigned there."""
    return {node.attr for node in ast.walk(tree) if isinstance(node, ast.Attribute)
            and not isinstance(node.ctx, ast.Load)}


def bound_names(tree):
    """The names that the module level of a file binds itself."""
    found = []
    for node in tree.body:
        if isinstance(node, (ast.FunctionDef, ast.ClassDef)):
            found.append(node.name)
        elif isinstance(node, ast.Assign):
            found += [target.id for target in node.targets]
    return found


def imports(tree):
    """The imports of a file."""
    return [node for node in tree.body if isinstance(node, ast.ImportFrom)]


class Files(unittest.TestCase):
    def test_folder(self):
        for path in PACKAGE.rglob("*"):
            if "__pycache__" not in path.parts:
                self.assertRegex(path.name, r"^([a-z][a-z0-9]*|__init__)\.py$")

    def test_signs_and_lengths(self):
        for name, text in SOURCES.items():
            rows = text.split("\n")
            self.assertLessEqual(len(rows), 400, name)
            for row in rows:
                self.assertRegex(row, r"^[ -~]{0,120}$", name)

    def test_functions_are_short(self):
        for name, node in nodes(ast.FunctionDef):
            self.assertLessEqual(node.end_lineno - node.lineno + 1, 40, (name, node.name))

    def test_strings(self):
        for name, node in nodes(ast.Constant):
            self.assertNotIsInstance(node.value, (float, complex, bytes))
            if isinstance(node.value, str):
                self.assertNotIn(chr(37), node.value)

    def test_words_that_do_not_occur(self):
        for name, text in SOURCES.items():
            for word in ("type", "typing", "enum", "dataclass", "overload", "global", "_wall"):
                self.assertIsNone(re.search(rf"\b{word}\b", text), (name, word))


class Imports(unittest.TestCase):
    def test_each_names_the_file_that_defines(self):
        for name, node in nodes(ast.ImportFrom):
            self.assertIn(node, TREES[name].body)
            package, _, file = node.module.partition(".")
            self.assertEqual((node.level, package), (0, "leastcode"))
            for alias in node.names:
                self.assertIsNone(alias.asname)
                self.assertIn(alias.name, bound_names(TREES[file]), name)

    def test_they_stand_at_the_top(self):
        for name, tree in TREES.items():
            kinds = [isinstance(node, ast.ImportFrom) for node in tree.body[1:]]
            self.assertEqual(kinds, sorted(kinds, reverse=True), name)

    def test_no_two_files_need_each_other(self):
        needs = {name: [node.module.split(".")[1] for node in imports(tree)] for name, tree in TREES.items()}
        done = []
        while len(done) < len(needs):
            ready = [name for name in needs if name not in done and all(need in done for need in needs[name])]
            self.assertTrue(ready, set(needs) - set(done))
            done += ready

    def test_what_is_imported_is_used(self):
        for name, tree in TREES.items():
            used = {node.id for node in ast.walk(tree) if isinstance(node, ast.Name)}
            for node in imports(tree):
                for alias in node.names:
                    self.assertIn(alias.name, used, name)


class Names(unittest.TestCase):
    def test_each_is_bound_once(self):
        for name, tree in TREES.items():
            found = bound_names(tree) + [alias.name for node in imports(tree) for alias in node.names]
            self.assertEqual(len(found), len(set(found)), name)

    def test_none_is_that_of_a_builtin(self):
        named = [node.id for _, node in nodes(ast.Name) if not isinstance(node.ctx, ast.Load)]
        named += [node.arg for _, node in nodes(ast.arg)]
        named += [node.name for _, node in nodes((ast.FunctionDef, ast.ClassDef))]
        self.assertFalse(set(named) & set(dir(builtins)))

    def test_local_names_are_not_those_of_classes_and_imports(self):
        for name, tree in TREES.items():
            taken = {alias.name for node in imports(tree) for alias in node.names}
            taken |= {node.name for node in tree.body if isinstance(node, ast.ClassDef)}
            local = {node.id for node in ast.walk(tree) if isinstance(node, ast.Name)
                     and not isinstance(node.ctx, ast.Load)}
            local |= {node.arg for node in ast.walk(tree) if isinstance(node, ast.arg)}
            self.assertFalse(taken & local, name)

    def test_builtins(self):
        for name, node in nodes(ast.Name):
            if node.id in dir(builtins):
                self.assertIn(node.id, BUILTINS, name)

    def test_methods_of_builtin_values(self):
        kinds = (str, int, list, dict, tuple, set, bytes)
        known = {method for kind in kinds for method in dir(kind)}
        for name, node in nodes(ast.Attribute):
            if node.attr in known:
                self.assertIn(node.attr, METHODS, name)

    def test_double_underscores(self):
        for name, node in nodes(ast.FunctionDef):
            if node.name.startswith("__"):
                self.assertIn(node.name, OPERATORS, name)


class Classes(unittest.TestCase):
    def test_assigned_properties_have_setters_everywhere(self):
        assigned = set().union(*[assigned_attributes(tree) for tree in TREES.values()])
        for node, properties, setters, _ in classes():
            self.assertLessEqual(properties & assigned, setters, node.name)

    def test_properties_are_no_methods(self):
        found = classes()
        every = set().union(*[properties for _, properties, _, _ in found])
        for node, _, _, plain in found:
            self.assertFalse(every & plain, node.name)

    def test_methods_are_no_attributes(self):
        for node, _, _, plain in classes():
            self.assertFalse(plain & assigned_attributes(node), node.name)

    def test_attributes_that_are_read_are_there(self):
        there = set().union(*[assigned_attributes(tree) for tree in TREES.values()], METHODS)
        for _, properties, _, plain in classes():
            there |= properties | plain
        for name, node in nodes(ast.Attribute):
            if node.attr != "setter":
                self.assertIn(node.attr, there, name)

    def test_no_method_is_read_off_a_class(self):
        names = {node.name: {part.name for part in methods(node) if decorated(part, "classmethod")}
                 for node, _, _, _ in classes()}
        for name, node in nodes(ast.Attribute):
            if isinstance(node.value, ast.Name) and node.value.id in names:
                self.assertIn(node.attr, names[node.value.id], name)

    def test_what_has_indexes_refuses_to_be_iterated_over(self):
        for node, _, _, plain in classes():
            if "__getitem__" in plain:
                row = [part for part in methods(node) if part.name == "__iter__"][0].body
                self.assertEqual(len(row), 1)
                self.assertRegex(ast.unparse(row[0]), r"^raise TypeError\('")

    def test_no_properties_in_errors(self):
        for name, node in nodes(ast.ClassDef):
            if name == "errors":
                self.assertFalse([part for part in methods(node) if part.decorator_list])


class Code(unittest.TestCase):
    def test_module_level(self):
        for name, tree in TREES.items():
            self.assertIsNotNone(ast.get_docstring(tree), name)
            for node in tree.body[1:]:
                self.assertIsInstance(node, (ast.ImportFrom, ast.FunctionDef, ast.ClassDef, ast.Assign), name)

    def test_what_is_not_allowed(self):
        self.assertEqual([(name, type(node)) for name, node in nodes(NOT_ALLOWED)], [])

    def test_lists_instead_of_generators(self):
        for name, node in nodes(ast.Call):
            if isinstance(node.func, ast.Name) and node.func.id in AT_ONCE:
                self.assertFalse(any(isinstance(part, ast.GeneratorExp) for part in node.args), name)

    def test_additions_to_variables(self):
        for name, node in nodes(ast.AugAssign):
            self.assertIsInstance(node.op, ast.Add, name)
            self.assertIsInstance(node.target, ast.Name, name)
            self.assertIsInstance(node.value, ast.Constant, name)

    def test_methods_of_equality_and_text(self):
        for name, node in nodes(ast.FunctionDef):
            if node.name == "__eq__":
                self.assertRegex(ast.unparse(node.body[0]), r"^return isinstance\(other, \w+\)", name)
            if node.name == "__str__":
                self.assertEqual(len(node.body), 1, name)
                self.assertRegex(ast.unparse(node.body[0]), r"^return (f'|str\(|'[^']*'\.join\()", name)

    def test_everything_has_a_docstring(self):
        for name, node in nodes((ast.FunctionDef, ast.ClassDef)):
            if not node.name.startswith("__"):
                self.assertIsNotNone(ast.get_docstring(node), (name, node.name))


if __name__ == "__main__":
    unittest.main()
