"""Those rules for the language of the package that can be seen in the text of its files."""

import ast
import builtins
import re
import unittest
from pathlib import Path

PACKAGE = Path(__file__).resolve().parent.parent / "leastcode"
SOURCES = {path.stem: path.read_text(encoding="utf-8") for path in sorted(PACKAGE.glob("*.py"))}
TREES = {name: ast.parse(text) for name, text in SOURCES.items()}

PLACES = {id(node): (name, node.lineno) for name, tree in TREES.items() for node in ast.walk(tree)
          if isinstance(node, ast.FunctionDef)}

BUILTINS = """len range enumerate zip min max sum abs sorted reversed int str bool list tuple dict set isinstance ord
    repr any all divmod map property classmethod ValueError TypeError AttributeError""".split()
METHODS = """append clear copy count endswith extend find get index insert isalnum isalpha isdigit islower isspace
    isupper items join keys ljust lower lstrip partition pop remove replace reverse rfind rjust rpartition rsplit
    rstrip setdefault split splitlines startswith strip update upper values zfill bit_length removeprefix isascii""".split()
UNCHANGING = "__eq__ __str__ __repr__ __len__ __getitem__ __pow__ __iter__".split()
OPERATORS = """__init__ __eq__ __str__ __len__ __iter__ __pow__ __getitem__""".split()
CHANGING = "append clear extend insert pop remove reverse setdefault update add discard sort".split()
AT_ONCE = ("any", "all", "min", "max", "sum", "sorted")
NOT_ALLOWED = (ast.Global, ast.AsyncFunctionDef, ast.Await, ast.AsyncFor, ast.AsyncWith, ast.Import, ast.AnnAssign,
               ast.Div, ast.Set)


def nodes(kinds):
    """All nodes of these kinds, with the names of their files."""
    return [(name, node) for name, tree in TREES.items() for node in ast.walk(tree) if isinstance(node, kinds)]


def decorated(node, kind):
    """Whether a function stands under a decorator with this text."""
    return kind in [ast.unparse(part) for part in node.decorator_list]


def methods(node):
    """The functions in the body of a class."""
    return [part for part in node.body if isinstance(part, ast.FunctionDef)]


def classes():
    """All classes of the package: the node, the names of its properties, of those with setters, and of its methods."""
    found = []
    for _, node in nodes(ast.ClassDef):
        properties = {part.name for part in methods(node) if decorated(part, "property")}
        setters = {part.name for part in methods(node) if decorated(part, f"{part.name}.setter")}
        plain = {part.name for part in methods(node)} - properties
        found.append((node, properties, setters, plain))
    return found


def bodies(tree):
    """What a file defines: functions by their names, and for the name of each class its __init__."""
    found = {node.name: node for node in tree.body if isinstance(node, ast.FunctionDef)}
    for node in tree.body:
        if isinstance(node, ast.ClassDef):
            found.update({node.name: part for part in methods(node) if part.name == "__init__"})
    return found


def named_in(name):
    """What the names of a file mean that are those of functions and classes: its own ones and the imported ones."""
    found = bodies(TREES[name])
    for node in imports(TREES[name]):
        there = bodies(TREES[node.module.split(".")[1]])
        found.update({alias.name: there[alias.name] for alias in node.names if alias.name in there})
    return found


def methods_by_name():
    """All methods and properties of the package, by their names, with the names of their files."""
    found = {}
    for name, node in nodes(ast.ClassDef):
        for part in methods(node):
            found.setdefault(part.name, []).append(part)
    return found


def assigned_parts(node):
    """The attributes and items that a function assigns or deletes."""
    return [part for part in ast.walk(node) if isinstance(part, (ast.Attribute, ast.Subscript))
            and not isinstance(part.ctx, ast.Load)]


def reached_from():
    """For each function, by its place (file, row), what it names and the methods whose names it reads, by places."""
    by_name = methods_by_name()
    found = {}
    for name, tree in TREES.items():
        named = named_in(name)
        for node in ast.walk(tree):
            if isinstance(node, ast.FunctionDef):
                # Signs may stand for methods of these names.
                reached = by_name["__eq__"] + by_name["__str__"]
                for part in ast.walk(node):
                    if isinstance(part, ast.Name) and part.id in named:
                        reached.append(named[part.id])
                    elif isinstance(part, ast.Attribute):
                        reached += by_name.get(part.attr, [])
                found[name, node.lineno] = {PLACES[id(other)] for other in reached}
    return found


def all_run_by(root, reached):
    """The places of a function and of all that it may run."""
    found = [root]
    for place in found:
        found += sorted(reached[place] - set(found))
    return found


def fresh_names(node):
    """The local variables of a function that are only ever assigned what it creates: lists, dicts, copies."""
    fresh, other = set(), {arg.arg for arg in ast.walk(node) if isinstance(arg, ast.arg)}
    for part in ast.walk(node):
        if isinstance(part, ast.Assign):
            made = isinstance(part.value, (ast.List, ast.Dict, ast.ListComp, ast.DictComp))
            text = ast.unparse(part.value)
            made = made or re.match(r"(list|dict|set|sorted)\(|\[.*\] [*+] ", text)
            for target in part.targets:
                (fresh if made and isinstance(target, ast.Name) else other).update(
                    name.id for name in ast.walk(target) if isinstance(name, ast.Name))
        elif isinstance(part, (ast.For, ast.comprehension)):
            other |= {name.id for name in ast.walk(part.target) if isinstance(name, ast.Name)}
    return fresh - other


def faults_of_change(node, setters):
    """What a function changes that it did not create; the attributes that an __init__ gives its object are free."""
    fresh, faults = fresh_names(node), []
    for part in assigned_parts(node):
        text = ast.unparse(part)
        if isinstance(part, ast.Attribute):
            if node.name != "__init__" or not re.fullmatch(r"self\.\w+", text) or part.attr in setters:
                faults.append(text)
        elif not (isinstance(part.value, ast.Name) and part.value.id in fresh):
            faults.append(text)
    for part in ast.walk(node):
        if isinstance(part, ast.Call) and isinstance(part.func, ast.Attribute) and part.func.attr in CHANGING:
            if not (isinstance(part.func.value, ast.Name) and part.func.value.id in fresh):
                faults.append(ast.unparse(part))
    return faults


def assigned_attributes(tree):
    """The names of the attributes that are assigned there."""
    return {node.attr for node in ast.walk(tree) if isinstance(node, ast.Attribute)
            and not isinstance(node.ctx, ast.Load)}


def bound_names(tree):
    """The names that the module level of a file binds itself."""
    found = []
    for node in tree.body:
        if isinstance(node, (ast.FunctionDef, ast.ClassDef)):
            found.append(node.name)
        elif isinstance(node, ast.Assign):
            found += [target.id for target in node.targets]
    return found


def imports(tree):
    """The imports of a file."""
    return [node for node in tree.body if isinstance(node, ast.ImportFrom)]


class Files(unittest.TestCase):
    def test_folder(self):
        for path in PACKAGE.rglob("*"):
            if "__pycache__" not in path.parts:
                self.assertRegex(path.name, r"^([a-z][a-z0-9]*|__init__)\.py$")

    def test_signs_and_lengths(self):
        for name, text in SOURCES.items():
            rows = text.split("\n")
            self.assertLessEqual(len(rows), 400, name)
            for row in rows:
                self.assertRegex(row, r"^[ -~]{0,120}$", name)

    def test_functions_are_short(self):
        for name, node in nodes(ast.FunctionDef):
            self.assertLessEqual(node.end_lineno - node.lineno + 1, 40, (name, node.name))

    def test_strings(self):
        for name, node in nodes(ast.Constant):
            self.assertNotIsInstance(node.value, (float, complex, bytes))
            if isinstance(node.value, str):
                self.assertNotIn(chr(37), node.value)

    def test_words_that_do_not_occur(self):
        for name, text in SOURCES.items():
            for word in ("type", "typing", "enum", "dataclass", "overload", "global", "_wall"):
                self.assertIsNone(re.search(rf"\b{word}\b", text), (name, word))


class Imports(unittest.TestCase):
    def test_each_names_the_file_that_defines(self):
        for name, node in nodes(ast.ImportFrom):
            self.assertIn(node, TREES[name].body)
            package, _, file = node.module.partition(".")
            self.assertEqual((node.level, package), (0, "leastcode"))
            for alias in node.names:
                self.assertIsNone(alias.asname)
                self.assertIn(alias.name, bound_names(TREES[file]), name)

    def test_they_stand_at_the_top(self):
        for name, tree in TREES.items():
            kinds = [isinstance(node, ast.ImportFrom) for node in tree.body[1:]]
            self.assertEqual(kinds, sorted(kinds, reverse=True), name)

    def test_no_two_files_need_each_other(self):
        needs = {name: [node.module.split(".")[1] for node in imports(tree)] for name, tree in TREES.items()}
        done = []
        while len(done) < len(needs):
            ready = [name for name in needs if name not in done and all(need in done for need in needs[name])]
            self.assertTrue(ready, set(needs) - set(done))
            done += ready

    def test_what_is_imported_is_used(self):
        for name, tree in TREES.items():
            used = {node.id for node in ast.walk(tree) if isinstance(node, ast.Name)}
            for node in imports(tree):
                for alias in node.names:
                    self.assertIn(alias.name, used, name)


class Names(unittest.TestCase):
    def test_each_is_bound_once(self):
        for name, tree in TREES.items():
            found = bound_names(tree) + [alias.name for node in imports(tree) for alias in node.names]
            self.assertEqual(len(found), len(set(found)), name)

    def test_none_is_that_of_a_builtin(self):
        named = [node.id for _, node in nodes(ast.Name) if not isinstance(node.ctx, ast.Load)]
        named += [node.arg for _, node in nodes(ast.arg)]
        named += [node.name for _, node in nodes((ast.FunctionDef, ast.ClassDef))]
        self.assertFalse(set(named) & set(dir(builtins)))

    def test_local_names_are_not_those_of_classes_and_imports(self):
        for name, tree in TREES.items():
            taken = {alias.name for node in imports(tree) for alias in node.names}
            taken |= {node.name for node in tree.body if isinstance(node, ast.ClassDef)}
            local = {node.id for node in ast.walk(tree) if isinstance(node, ast.Name)
                     and not isinstance(node.ctx, ast.Load)}
            local |= {node.arg for node in ast.walk(tree) if isinstance(node, ast.arg)}
            self.assertFalse(taken & local, name)

    def test_builtins(self):
        for name, node in nodes(ast.Name):
            if node.id in dir(builtins):
                self.assertIn(node.id, BUILTINS, name)

    def test_methods_of_builtin_values(self):
        kinds = (str, int, list, dict, tuple, set, bytes)
        known = {method for kind in kinds for method in dir(kind)}
        for name, node in nodes(ast.Attribute):
            if node.attr in known and not ast.unparse(node).endswith(".__class__"):
                self.assertIn(node.attr, METHODS, name)

    def test_names_of_classes(self):
        for name, node in nodes(ast.Attribute):
            if node.attr.startswith("__") and node.attr != "__init__":
                self.assertIn(node.attr, ("__class__", "__name__"), name)
                self.assertEqual(node.attr == "__name__", isinstance(node.value, ast.Attribute), name)
        for name, text in SOURCES.items():
            self.assertEqual(text.count("__class__"), len(re.findall(r"\b\w+\.__class__\.__name__\b", text)), name)

    def test_double_underscores(self):
        for name, node in nodes(ast.FunctionDef):
            if node.name.startswith("__"):
                self.assertIn(node.name, OPERATORS, name)


class Classes(unittest.TestCase):
    def test_assigned_properties_have_setters_everywhere(self):
        assigned = set().union(*[assigned_attributes(tree) for tree in TREES.values()])
        for node, properties, setters, _ in classes():
            self.assertLessEqual(properties & assigned, setters, node.name)

    def test_operators_and_properties_change_nothing(self):
        reached = reached_from()
        setters = set().union(*[setters for _, _, setters, _ in classes()])
        faults = {PLACES[id(node)]: faults_of_change(node, setters) for _, node in nodes(ast.FunctionDef)}
        for name, node in nodes(ast.FunctionDef):
            if decorated(node, "property") or node.name in UNCHANGING:
                for place in all_run_by(PLACES[id(node)], reached):
                    self.assertEqual(faults[place], [], (name, node.name, place))

    def test_no_property_has_the_name_of_an_attribute_of_an_error(self):
        named = set().union(*[assigned_attributes(node) for name, node in nodes(ast.ClassDef) if name == "errors"])
        for node, properties, _, _ in classes():
            self.assertFalse(named & properties, node.name)

    def test_properties_are_no_methods(self):
        found = classes()
        every = set().union(*[properties for _, properties, _, _ in found])
        for node, _, _, plain in found:
            self.assertFalse(every & plain, node.name)

    def test_methods_are_no_attributes(self):
        for node, _, _, plain in classes():
            self.assertFalse(plain & assigned_attributes(node), node.name)

    def test_attributes_that_are_read_are_there(self):
        there = set().union(*[assigned_attributes(tree) for tree in TREES.values()], METHODS)
        for _, properties, _, plain in classes():
            there |= properties | plain
        for name, node in nodes(ast.Attribute):
            if node.attr not in ("setter", "__class__", "__name__"):
                self.assertIn(node.attr, there, name)

    def test_no_method_is_read_off_a_class(self):
        names = {node.name: {part.name for part in methods(node) if decorated(part, "classmethod")}
                 for node, _, _, _ in classes()}
        for name, node in nodes(ast.Attribute):
            if isinstance(node.value, ast.Name) and node.value.id in names:
                self.assertIn(node.attr, names[node.value.id], name)

    def test_what_has_indexes_refuses_to_be_iterated_over(self):
        for node, _, _, plain in classes():
            if "__getitem__" in plain:
                row = [part for part in methods(node) if part.name == "__iter__"][0].body
                self.assertEqual(len(row), 1)
                self.assertRegex(ast.unparse(row[0]), r"^raise TypeError\('")

    def test_no_properties_in_errors(self):
        for name, node in nodes(ast.ClassDef):
            if name == "errors":
                self.assertFalse([part for part in methods(node) if part.decorator_list])


class Code(unittest.TestCase):
    def test_module_level(self):
        for name, tree in TREES.items():
            self.assertIsNotNone(ast.get_docstring(tree), name)
            for node in tree.body[1:]:
                self.assertIsInstance(node, (ast.ImportFrom, ast.FunctionDef, ast.ClassDef, ast.Assign), name)

    def test_what_is_not_allowed(self):
        self.assertEqual([(name, type(node)) for name, node in nodes(NOT_ALLOWED)], [])

    def test_lists_instead_of_generators(self):
        for name, node in nodes(ast.Call):
            if isinstance(node.func, ast.Name) and node.func.id in AT_ONCE:
                self.assertFalse(any(isinstance(part, ast.GeneratorExp) for part in node.args), name)

    def test_additions_to_variables(self):
        for name, node in nodes(ast.AugAssign):
            self.assertIsInstance(node.op, ast.Add, name)
            self.assertIsInstance(node.target, ast.Name, name)
            self.assertIsInstance(node.value, ast.Constant, name)

    def test_methods_of_equality_and_text(self):
        for name, node in nodes(ast.FunctionDef):
            if node.name == "__eq__":
                self.assertRegex(ast.unparse(node.body[0]), r"^return isinstance\(other, \w+\)", name)
            if node.name == "__str__":
                self.assertEqual(len(node.body), 1, name)
                self.assertRegex(ast.unparse(node.body[0]), r"^return (f'|str\(|'[^']*'\.join\()", name)

    def test_everything_has_a_docstring(self):
        for name, node in nodes((ast.FunctionDef, ast.ClassDef)):
            if not node.name.startswith("__"):
                self.assertIsNotNone(ast.get_docstring(node), (name, node.name))


if __name__ == "__main__":
    unittest.main()
