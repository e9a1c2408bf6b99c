"""The section 'The interface', and the form of the files."""

import ast
import doctest
import inspect
import pathlib
import subprocess
import sys
import unittest
import warnings

from talkmeans import books, deciding, desk, ends, errors, live, mending, papers, shrinking, talks, telling, ways

ROOT = pathlib.Path(__file__).resolve().parent.parent
FILES = sorted((ROOT / "talkmeans").rglob("*.py"))

FUNCTIONS = {
    ways: {
        "is_row": ["book", "value"],
        "is_ring": ["book", "value"],
        "done": ["book", "row"],
        "led": ["book", "row", "numbers"],
        "apart": ["book", "row"],
    },
    deciding: {"agree": ["book"], "split": ["book"], "talks_to_meet": ["book"], "rings_of": ["book"]},
    papers: {"paper": ["book"], "paper_holds": ["book", "value"]},
    shrinking: {"factor": ["talk"], "slowest": ["book", "k"], "slow_row": ["book", "k"], "spread": ["numbers"]},
    ends: {
        "weights": ["talk"], "end": ["talk", "numbers"], "least_lots": ["talk"],
        "can_count": ["book"], "settled": ["book"], "how_counts": ["book", "i"],
    },
    mending: {"strikes": ["book"], "adds": ["book"], "stoppers": ["book"]},
    telling: {
        "told_back": ["talk", "numbers"], "first_of": ["book", "row", "numbers"],
        "swaps": ["book"], "alike": ["p", "q"],
    },
}
CLASSES = {
    errors: {
        "TalkError": {}, "InvalidLot": {}, "InvalidCommand": {},
        "InvalidTalk": {"__init__": ["at"]}, "InvalidBook": {"__init__": ["word"]}, "InvalidText": {"__init__": ["at"]},
        "InvalidRow": {"__init__": ["at"]}, "InvalidNumbers": {"__init__": ["at"]}, "Refused": {"__init__": ["at"]},
        "NoTalk": {"__init__": ["name"]},
    },
    talks: {
        "Talk": {
            "__init__": ["rows"], "heeds": ["i"], "led": ["numbers"], "closes": ["lot"], "firm": ["lot"],
            "read": ["text"], "__len__": [], "__eq__": ["other"], "__str__": [], "__rshift__": ["other"],
        },
    },
    books: {
        "Book": {
            "__init__": ["talks", "steps"], "behind": ["name"], "without": ["name"], "with_step": ["first", "then"],
            "heeding": ["name", "i", "j"], "firm": ["lot"], "read": ["text"],
            "__getitem__": ["at"], "__add__": ["other"], "__eq__": ["other"], "__str__": [],
        },
    },
    live: {
        "Live": {
            "__init__": ["book", "numbers"], "do": ["name"], "several": ["names"], "change": ["book"], "firm": ["lot"],
            "undo": [], "within": ["work"], "__len__": [],
        },
    },
    desk: {"Desk": {"__init__": [], "say": ["command"]}},
}


def defined(module):
    """The names that a file defines itself, those of its classes with their methods."""
    tree = ast.parse(pathlib.Path(module.__file__).read_text())
    told = {}
    for node in tree.body:
        if isinstance(node, ast.FunctionDef):
            told[node.name] = None
        if isinstance(node, ast.ClassDef):
            told[node.name] = [part.name for part in node.body if isinstance(part, ast.FunctionDef)]
    return told


class Interface(unittest.TestCase):
    def test_functions(self):
        for module, told in FUNCTIONS.items():
            for name, parameters in told.items():
                self.assertIn(name, defined(module))
                self.assertEqual(list(inspect.signature(getattr(module, name)).parameters), parameters)

    def test_classes(self):
        for module, told in CLASSES.items():
            for name, methods in told.items():
                self.assertIn(name, defined(module))
                for method, parameters in methods.items():
                    self.assertIn(method, defined(module)[name])
                    found = list(inspect.signature(getattr(getattr(module, name), method)).parameters)
                    self.assertEqual([word for word in found if word != "self"], parameters, method)

    def test_class_methods_properties_and_defaults(self):
        self.assertIsInstance(vars(talks.Talk)["read"], classmethod)
        self.assertIsInstance(vars(books.Book)["read"], classmethod)
        self.assertIsInstance(vars(books.Book)["names"], property)
        self.assertIsInstance(vars(books.Book)["people"], property)
        self.assertEqual(inspect.signature(books.Book).parameters["steps"].default, ())

    def test_attributes(self):
        talk = talks.Talk([[1]])
        book = books.Book([("a", talk)])
        told = [
            (talk, ["rows"]), (book, ["talks", "steps"]), (live.Live(book, [1]), ["book", "row", "numbers"]),
            (desk.Desk(), ["book", "live"]),
        ]
        for thing, names in told:
            self.assertLessEqual(set(names), set(vars(thing)))

    def test_each_file_is_imported_alone(self):
        for file in FILES:
            name = "talkmeans" if file.stem == "__init__" else f"talkmeans.{file.stem}"
            subprocess.run([sys.executable, "-c", f"import {name}"], cwd=ROOT, check=True)

    def test_package_file_is_empty_but_for_a_docstring(self):
        tree = ast.parse((ROOT / "talkmeans" / "__init__.py").read_text())
        self.assertEqual(len(tree.body), 1)
        self.assertTrue(ast.get_docstring(tree))


class Form(unittest.TestCase):
    def test_sizes_and_characters(self):
        for file in FILES:
            lines = file.read_text(encoding="ascii").split("\n")
            self.assertLessEqual(len(lines), 399, file.name)
            for line in lines:
                self.assertLessEqual(len(line), 120, file.name)
                self.assertTrue(line == "" or line.isprintable(), file.name)

    def test_functions_are_short(self):
        for file in FILES:
            for node in ast.walk(ast.parse(file.read_text())):
                if isinstance(node, ast.FunctionDef):
                    self.assertLessEqual(node.end_lineno - node.lineno + 1, 40, node.name)

    def test_imports(self):
        allowed = {"math": {"gcd", "lcm", "isqrt", "comb", "perm", "factorial"},
                   "heapq": {"heappush", "heappop", "heapify", "heapreplace", "heappushpop"},
                   "itertools": {"product", "combinations", "permutations"}}
        for file in FILES:
            for node in ast.walk(ast.parse(file.read_text())):
                self.assertNotIsInstance(node, ast.Import, file.name)
                if isinstance(node, ast.ImportFrom) and not node.module.startswith("talkmeans."):
                    self.assertLessEqual({name.name for name in node.names}, allowed[node.module], file.name)

    def test_no_floats_no_warnings(self):
        for file in FILES:
            with warnings.catch_warnings():
                warnings.simplefilter("error")
                compile(file.read_text(), str(file), "exec")
            for node in ast.walk(ast.parse(file.read_text())):
                self.assertNotIsInstance(node, (ast.Div, ast.Global, ast.AsyncFunctionDef), file.name)
                if isinstance(node, ast.Constant):
                    self.assertNotIsInstance(node.value, (float, complex), file.name)

    def test_folder_holds_python_files_only(self):
        found = [path for path in (ROOT / "talkmeans").rglob("*") if "__pycache__" not in path.parts]
        self.assertEqual(sorted(path for path in found if path.is_file()), FILES)

    def test_readme(self):
        found = doctest.testfile(str(ROOT / "README.md"), module_relative=False)
        self.assertEqual(found.failed, 0)
        self.assertGreater(found.attempted, 10)


if __name__ == "__main__":
    unittest.main()
