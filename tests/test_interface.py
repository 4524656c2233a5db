"""The interface of the document: each name is defined in the file under which it is listed, with its arguments."""

import ast
import pathlib
import re
import unittest

FOLDER = pathlib.Path(__file__).parent
CLASSES = {"house": "House", "desk": "Desk"}


def listed():
    """A dict from the names of the files to lists of tuples (name, arguments)."""
    found = {}
    for line in (FOLDER / "interface.txt").read_text().splitlines():
        path, rest = re.match(r"- laidanyhow/(\w+)\.py(.*)", line).groups()
        rows = re.findall(r"`(\w+)(\([^`]*\))?`", rest)
        found[path] = [(name, words[1:-1]) for name, words in rows if words or name == "__eq__"]
    return found


def arguments(node, skipped=0):
    return ", ".join(one.arg for one in node.args.args[skipped:])


class Interface(unittest.TestCase):
    def setUp(self):
        self.listed = listed()
        self.trees = {
            name: ast.parse((FOLDER.parent / "laidanyhow" / f"{name}.py").read_text()) for name in self.listed
        }

    def defined(self, name, kind):
        return {node.name: node for node in self.trees[name].body if isinstance(node, kind)}

    def test_functions(self):
        self.assertEqual(len(self.listed), 26)
        many = 0
        for name in set(self.listed) - {"errors", *CLASSES}:
            functions = self.defined(name, ast.FunctionDef)
            for function, words in self.listed[name]:
                self.assertEqual(arguments(functions[function]), words, f"{name}.{function}")
                self.assertEqual((functions[function].args.defaults, functions[function].args.kwonlyargs), ([], []))
                many += 1
        self.assertGreater(many, 120)

    def test_classes(self):
        for name, known in CLASSES.items():
            found = self.defined(name, ast.ClassDef)[known]
            methods = {node.name: node for node in found.body if isinstance(node, ast.FunctionDef)}
            (first, words), *rest = self.listed[name]
            self.assertEqual((first, words), (known, arguments(methods["__init__"], 1)))
            for method, words in rest:
                expected = "other" if method == "__eq__" else words
                self.assertEqual(arguments(methods[method], 1), expected, f"{known}.{method}")

    def test_errors(self):
        classes = self.defined("errors", ast.ClassDef)
        for error, words in self.listed["errors"]:
            bases = [base.id for base in classes[error].bases]
            if error == "TileError":
                self.assertEqual((bases, words), (["ValueError"], "ValueError"))
            else:
                methods = [node for node in classes[error].body if isinstance(node, ast.FunctionDef)]
                self.assertEqual(bases, ["TileError"])
                self.assertEqual([(node.name, arguments(node, 1)) for node in methods], [("__init__", words)])
