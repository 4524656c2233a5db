"""The rules of the subset of Python that can be seen in the files of the package, for those parts that it uses."""

import ast
import builtins
import pathlib
import unittest

PACKAGE = pathlib.Path(__file__).parent.parent / "laidanyhow"
BUILTINS = set(
    "len range enumerate zip min max sum abs sorted reversed int str bool list tuple dict set isinstance ord repr any"
    " all divmod ValueError KeyError".split()
)
METHODS = set(
    "append count endswith extend find get index insert items join keys ljust lower partition pop remove replace"
    " reverse rfind rjust rpartition setdefault split startswith strip upper values zfill add discard"
    " bit_length".split()
)
ATTRIBUTES = set("count index find get join lower upper split strip add".split())
LIBRARY = {"heapq": {"heappop", "heappush"}, "itertools": {"combinations"}, "math": {"gcd", "lcm"}}
UNUSED = set(
    "register mro elements open input law version_info compile copyright credits delattr dir eval exec exit gc globals"
    " help id importlib license locals os quit super type vars sys map filter".split()
)
UNUSED_BEGINNINGS = (
    "__", "_wall", "_pe_", "_dcw_", "_enum_", "_cm_", "_twin_re_", "_lay_", "_law_", "_stub_", "_sre", "_WallAttr",
    "_cold", "_tuplegetter", "_outside", "_record", "_written_out", "_member_names",
)
STATEMENTS = (
    ast.FunctionDef, ast.ClassDef, ast.Return, ast.Assign, ast.AugAssign, ast.For, ast.While, ast.If, ast.Expr,
    ast.Raise, ast.Pass, ast.Break, ast.Continue, ast.ImportFrom, ast.Try, ast.Delete,
)
UNUSED_NODES = (
    ast.GeneratorExp, ast.Yield, ast.YieldFrom, ast.Await, ast.Global, ast.Nonlocal, ast.NamedExpr, ast.Div,
)


def is_builtin(name):
    # The examples leave an underscore behind among the builtins.
    return hasattr(builtins, name) and not name.startswith("_")


def is_none_or_truth(node):
    return isinstance(node, ast.Constant) and node.value in (None, True, False)


class Language(unittest.TestCase):
    def setUp(self):
        self.paths = sorted(PACKAGE.rglob("*"))
        self.paths = [path for path in self.paths if "__pycache__" not in path.parts]
        self.trees = {path.stem: ast.parse(path.read_text()) for path in self.paths}

    def nodes(self, *kinds):
        for name, tree in self.trees.items():
            for node in ast.walk(tree):
                if isinstance(node, kinds):
                    yield f"{name}:{getattr(node, 'lineno', 0)}", node

    def test_files(self):
        self.assertTrue(self.paths)
        for path in self.paths:
            self.assertRegex(path.name, r"^(__init__|[a-z][a-z0-9]*)\.py$")
            text = path.read_text()
            self.assertLessEqual(text.count("\n"), 399, path.name)
            for number, line in enumerate(text.split("\n"), 1):
                self.assertLessEqual(len(line), 120, f"{path.name}:{number}")
                self.assertTrue(all(" " <= sign <= "~" for sign in line), f"{path.name}:{number}")

    def test_functions_are_small(self):
        for where, node in self.nodes(ast.FunctionDef):
            self.assertLessEqual(node.end_lineno - node.lineno + 1, 40, where)
            self.assertEqual(node.decorator_list, [], where)

    def test_statements_and_expressions(self):
        for where, node in self.nodes(ast.stmt):
            self.assertIsInstance(node, STATEMENTS, where)
        for where, node in self.nodes(*UNUSED_NODES):
            self.fail(f"{where}: {node}")
        for where, node in self.nodes(ast.Compare):
            for sign, side in zip(node.ops, node.comparators):
                if isinstance(sign, (ast.Is, ast.IsNot)):
                    self.assertTrue(is_none_or_truth(side), where)

    def test_module_level(self):
        for name, tree in self.trees.items():
            for node in tree.body:
                allowed = (ast.ImportFrom, ast.FunctionDef, ast.ClassDef, ast.Assign, ast.Expr)
                self.assertIsInstance(node, allowed, name)
                if isinstance(node, ast.Expr):
                    self.assertIsInstance(node.value, ast.Constant, name)
                if isinstance(node, ast.Assign):
                    self.assertNotIsInstance(node.value, ast.Call, name)

    def test_imports_name_the_file_that_defines(self):
        defined = {
            name: {node.name for node in tree.body if isinstance(node, (ast.FunctionDef, ast.ClassDef))}
            | {one.id for node in tree.body if isinstance(node, ast.Assign) for one in node.targets}
            for name, tree in self.trees.items()
        }
        seen = {name: set() for name in self.trees}
        for name, tree in self.trees.items():
            for node in ast.walk(tree):
                if isinstance(node, ast.ImportFrom) and node.module in LIBRARY:
                    self.assertLessEqual({one.name for one in node.names}, LIBRARY[node.module], name)
                    self.assertEqual([one.asname for one in node.names if one.asname], [], name)
                elif isinstance(node, ast.ImportFrom):
                    self.assertEqual((node.level, node.module.split(".")[0]), (0, "laidanyhow"), name)
                    source = node.module.split(".")[1]
                    seen[name].add(source)
                    for one in node.names:
                        self.assertIn(one.name, defined[source], name)
                        self.assertIsNone(one.asname, name)
        self.assertEqual(seen["__init__"], set())
        while seen:
            free = [name for name in seen if not seen[name] & set(seen)]
            self.assertTrue(free, f"these import each other: {sorted(seen)}")
            seen = {name: seen[name] for name in seen if name not in free}

    def test_names_of_the_library_are_only_called(self):
        named = {name for names in LIBRARY.values() for name in names}
        for name, tree in self.trees.items():
            called = {id(node.func) for node in ast.walk(tree) if isinstance(node, ast.Call) and not node.keywords}
            for node in ast.walk(tree):
                if isinstance(node, ast.Name) and node.id in named:
                    self.assertIn(id(node), called, f"{name}:{node.lineno}")

    def test_imports_are_used(self):
        for name, tree in self.trees.items():
            read = {node.id for node in ast.walk(tree) if isinstance(node, ast.Name)}
            for node in tree.body:
                if isinstance(node, ast.ImportFrom):
                    self.assertEqual([one.name for one in node.names if one.name not in read], [], name)

    def test_names(self):
        for where, node in self.nodes(ast.Name):
            allowed = isinstance(node.ctx, ast.Load) and node.id in BUILTINS
            self.assertTrue(allowed or not is_builtin(node.id), f"{where}: {node.id}")
            self.assertNotIn(node.id, UNUSED, where)
            self.assertFalse(node.id == "_" and isinstance(node.ctx, ast.Load), where)
        for where, node in self.nodes(ast.arg):
            self.assertFalse(is_builtin(node.arg) or node.arg in UNUSED, f"{where}: {node.arg}")
        for where, node in self.nodes(ast.FunctionDef, ast.ClassDef):
            self.assertFalse(is_builtin(node.name) or node.name in UNUSED, f"{where}: {node.name}")

    def test_beginnings_of_names(self):
        names = [(where, node.id) for where, node in self.nodes(ast.Name)]
        names += [(where, node.arg) for where, node in self.nodes(ast.arg)]
        names += [(where, node.attr) for where, node in self.nodes(ast.Attribute)]
        names += [(where, node.name) for where, node in self.nodes(ast.FunctionDef, ast.ClassDef)]
        for where, name in names:
            if name not in ("__init__", "__eq__"):
                self.assertFalse(name.startswith(UNUSED_BEGINNINGS), f"{where}: {name}")

    def test_no_local_name_is_a_class_or_an_import(self):
        for name, tree in self.trees.items():
            taken = {node.name for node in tree.body if isinstance(node, ast.ClassDef)}
            for node in tree.body:
                if isinstance(node, ast.ImportFrom):
                    taken |= {one.name for one in node.names}
            for node in ast.walk(tree):
                if isinstance(node, ast.arg):
                    self.assertNotIn(node.arg, taken, name)
                if isinstance(node, ast.Name) and isinstance(node.ctx, ast.Store):
                    self.assertNotIn(node.id, taken, name)

    def test_methods(self):
        own = self.own_methods()
        for where, node in self.nodes(ast.Call):
            if isinstance(node.func, ast.Attribute):
                self.assertIn(node.func.attr, METHODS | own, where)
                self.assertNotIn(node.func.attr, ("__init__", "__eq__"), where)

    def own_methods(self):
        classes = [node for where, node in self.nodes(ast.ClassDef)]
        return {one.name for node in classes for one in node.body if isinstance(one, ast.FunctionDef)}

    def test_no_name_is_a_method_and_an_attribute(self):
        own = self.own_methods()
        for where, node in self.nodes(ast.ClassDef):
            methods = [one.name for one in node.body if isinstance(one, ast.FunctionDef)]
            self.assertEqual(len(set(methods)), len(methods), where)
            attributes = [one for one in ast.walk(node) if isinstance(one, ast.Attribute)]
            assigned = {one.attr for one in attributes if isinstance(one.ctx, ast.Store)}
            self.assertFalse(assigned & (set(methods) | METHODS - ATTRIBUTES), where)
            for one in attributes:
                self.assertIn(one.attr, assigned | own | METHODS, where)

    def test_tables_at_module_level_are_only_looked_up(self):
        for name, tree in self.trees.items():
            tables = {
                target.id for node in tree.body if isinstance(node, ast.Assign) and isinstance(node.value, ast.Dict)
                for target in node.targets
            }
            right = set()
            for node in ast.walk(tree):
                if isinstance(node, ast.Compare):
                    right |= {id(one) for one in node.comparators}
                if isinstance(node, (ast.Subscript, ast.Attribute)):
                    right.add(id(node.value))
            for node in ast.walk(tree):
                if isinstance(node, ast.Name) and node.id in tables and isinstance(node.ctx, ast.Load):
                    self.assertIn(id(node), right, f"{name}:{node.lineno}")

    def test_sets_are_sorted_measured_or_stored(self):
        for name, tree in self.trees.items():
            right = set()
            for node in ast.walk(tree):
                if isinstance(node, ast.Assign):
                    right.add(id(node.value))
                if isinstance(node, ast.Call) and isinstance(node.func, ast.Name) and node.func.id in ("sorted", "len"):
                    right.add(id(node.args[0]))
            for node in ast.walk(tree):
                is_call = isinstance(node, ast.Call) and isinstance(node.func, ast.Name) and node.func.id == "set"
                if is_call or isinstance(node, ast.SetComp):
                    self.assertIn(id(node), right, f"{name}:{node.lineno}")

    def test_constants(self):
        for where, node in self.nodes(ast.Constant):
            self.assertNotIsInstance(node.value, (float, bytes), where)
            if isinstance(node.value, str):
                self.assertNotIn(chr(37), node.value, where)
