import ast
import unittest
from pathlib import Path

from tests.language import File, methods_in, names_in_classes

FOLDER = Path(__file__).parent.parent / "drawclaims"
TEXTS = {path.name: path.read_text("utf-8") for path in sorted(FOLDER.glob("*.py"))}
METHODS = set().union(*[methods_in(text) for text in TEXTS.values()])
FILES = {name: File(name, text, METHODS) for name, text in TEXTS.items()}


def imports_of(name):
    """The names of the files that a file imports from, each with what it imports."""
    for node in FILES[name].tree.body:
        if isinstance(node, ast.ImportFrom) and node.module.startswith("drawclaims."):
            yield node.module.removeprefix("drawclaims.") + ".py", [item.name for item in node.names]


class LanguageTest(unittest.TestCase):
    def test_folder(self):
        others = [path.name for path in FOLDER.iterdir() if path.suffix != ".py" and path.name != "__pycache__"]
        self.assertEqual(others, [])

    def test_files(self):
        self.assertEqual([fault for file in FILES.values() for fault in file.faults], [])

    def test_imports_name_the_file_that_defines(self):
        for name in FILES:
            for other, wanted in imports_of(name):
                defined = [
                    node.targets[0].id if isinstance(node, ast.Assign) else node.name
                    for node in FILES[other].tree.body
                    if isinstance(node, (ast.Assign, ast.FunctionDef, ast.ClassDef))
                ]
                self.assertEqual([item for item in wanted if item not in defined], [], name)

    def test_no_two_files_import_from_each_other(self):
        left = {name: {other for other, _ in imports_of(name)} for name in FILES}
        while left:
            free = [name for name, others in left.items() if not others & set(left)]
            self.assertTrue(free, sorted(left))
            for name in free:
                del left[name]

    def test_the_checker_shares_only_limits_and_errors(self):
        own, left = set(), ["checker.py"]
        while left:
            name = left.pop()
            own.add(name)
            left += [other for other, _ in imports_of(name) if other not in own | {"limits.py", "errors.py"}]
        self.assertGreater(len(own), 2)
        for name in set(FILES) - own:
            self.assertEqual([other for other, _ in imports_of(name) if other in own], [], name)
        # Nothing of the library either, so all that the checker relies on can be read there.
        for name in own:
            modules = [node.module for node in FILES[name].tree.body if isinstance(node, ast.ImportFrom)]
            self.assertTrue(all(module.startswith("drawclaims.") for module in modules), name)

    def test_names_of_methods_and_attributes(self):
        classes = [(name, names) for text in TEXTS.values() for name, names in names_in_classes(text).items()]
        self.assertGreater(len(classes), 30)
        for name, (plain, attributes, special) in classes:
            self.assertEqual(plain & attributes, set(), name)
            for other, (_, more, _) in classes:
                # A name of a static or class method, a generator or a property has no other meaning anywhere.
                self.assertEqual(special & more, set(), (name, other))
        every = {name for _, (plain, _, _) in classes for name in plain}
        self.assertEqual(every & {name for _, (_, _, special) in classes for name in special}, set())

    def test_faults_are_seen(self):
        for row in (
            "import os", "from os import path", "x = 1.5", "def f(x):\n    return x / 2", "def next(x):\n    return x",
            "def f(x):\n    return sorted(x)", "def f(x):\n    return x is x", "def f(x):\n    return x ** x",
            "def f(x):\n    return x.format()", "def f(x):\n    return any(y for y in x)", "x = 1\nx = 2",
            "def f(x: int):\n    return x", "def f(x):\n    y = zip(x)\n    return y", "print(1)", "x = '5%'",
            "def f(x):\n    return map(x)", "class A:\n    def __hash__(self):\n        return 1", "x = '\u00e9'",
        ):
            self.assertTrue(File("file.py", row, set()).faults, row)
