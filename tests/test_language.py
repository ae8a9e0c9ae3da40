"""The form of the package's files: the rules of ../shared/LANGUAGE.md that a look at the code can tell."""

import ast
import builtins
import os
import unittest

import pathloom

FOLDER = os.path.dirname(pathloom.__file__)
ROOT = os.path.dirname(FOLDER)
BUILTINS = set(
    "len range enumerate zip min max sum abs sorted reversed int str bool bytes list tuple dict set frozenset "
    "isinstance ord repr any all divmod iter next map super property staticmethod classmethod Exception "
    "ValueError TypeError KeyError IndexError LookupError ZeroDivisionError ArithmeticError OverflowError "
    "RuntimeError NotImplementedError AttributeError StopIteration NotImplemented".split()
)
METHODS = set(
    "append clear copy count endswith extend find get index insert isalnum isalpha isdigit islower isspace "
    "isupper items join keys ljust lower lstrip partition pop remove replace reverse rfind rjust rpartition "
    "rsplit rstrip setdefault split splitlines startswith strip update upper values zfill bit_length title "
    "capitalize swapcase casefold center expandtabs removeprefix removesuffix rindex isascii isdecimal "
    "isnumeric istitle isidentifier isprintable translate add discard encode decode hex sort __init__".split()
)
LIBRARY = {"heapq": {"heappush", "heappop", "heapify", "heapreplace", "heappushpop"},
           "math": {"gcd", "lcm", "isqrt", "comb", "perm", "factorial"},
           "itertools": {"product", "combinations", "permutations"},
           "__future__": {"annotations"}}
BARRED = {"register", "mro", "elements", "open", "input", "law", "version_info", "with_traceback", "add_note", "args"}
BARRED_NODES = (ast.AsyncFunctionDef, ast.Await, ast.Global, ast.Import, ast.TryStar)


def files():
    return sorted(os.path.join(folder, name) for folder, _, names in os.walk(FOLDER) for name in names
                  if "__pycache__" not in folder)


class Form(unittest.TestCase):
    def each(self):
        found = []
        for path in files():
            with open(path, encoding="utf-8") as file:
                text = file.read()
            found.append((path, text, ast.parse(text)))
        return found

    def test_files(self):
        for path in files():
            self.assertRegex(os.path.basename(path), r"\A[a-z0-9_]+\.py\Z")
        self.assertIn(os.path.join(FOLDER, "__init__.py"), files())
        self.assertLessEqual(len(files()), 100)

    def test_characters_and_size(self):
        for _, text, tree in self.each():
            self.assertTrue(all(sign == "\n" or " " <= sign <= "~" for sign in text))
            lines = text.split("\n")
            self.assertLessEqual(len(lines) - 1, 399)
            self.assertLessEqual(max(map(len, lines)), 120)
            for node in ast.walk(tree):
                if isinstance(node, ast.FunctionDef):
                    self.assertLessEqual(node.end_lineno - node.lineno + 1, 40, node.name)

    def test_statements(self):
        for _, _, tree in self.each():
            for node in ast.walk(tree):
                self.assertNotIsInstance(node, BARRED_NODES)
                if isinstance(node, ast.BinOp):
                    self.assertNotIsInstance(node.op, ast.Div)
                if isinstance(node, ast.Constant):
                    self.assertNotIsInstance(node.value, (float, complex))
                    if isinstance(node.value, str):
                        self.assertNotIn("%", node.value)
                        self.assertFalse(node.value.endswith(("._", ".__")), node.value)
                if isinstance(node, ast.ExceptHandler):
                    self.assertIsNotNone(node.type)

    def test_module_level(self):
        allowed = (ast.ImportFrom, ast.FunctionDef, ast.ClassDef, ast.Assign, ast.Expr)
        for _, _, tree in self.each():
            for node in tree.body:
                self.assertIsInstance(node, allowed)
                if isinstance(node, ast.Expr):
                    self.assertIsInstance(node.value, ast.Constant)

    def test_imports(self):
        for _, _, tree in self.each():
            for node in ast.walk(tree):
                if isinstance(node, ast.ImportFrom):
                    self.assertEqual(node.level, 0)
                    names = [alias.name for alias in node.names]
                    self.assertNotIn("*", names)
                    if node.module.split(".")[0] == "pathloom":
                        path = os.path.join(ROOT, *node.module.split(".")) + ".py"
                        with open(path, encoding="utf-8") as file:
                            defined = own_names(ast.parse(file.read()))
                        self.assertLessEqual(set(names), defined)
                    else:
                        self.assertLessEqual(set(names), LIBRARY[node.module])

    def test_no_import_in_a_circle(self):
        known = {}
        for path, _, tree in self.each():
            module = "pathloom." + os.path.basename(path)[:-3]
            known[module] = {node.module for node in tree.body if isinstance(node, ast.ImportFrom)}
        for module in known:
            reached, waiting = set(), list(known[module])
            while waiting:
                other = waiting.pop()
                if other not in reached:
                    reached.add(other)
                    waiting.extend(known.get(other, ()))
            self.assertNotIn(module, reached)

    def test_called_names_and_methods(self):
        methods = set()
        for _, _, tree in self.each():
            methods |= {node.name for node in ast.walk(tree) if isinstance(node, ast.FunctionDef)}
        for _, _, tree in self.each():
            bound = own_names(tree)
            names = [node for node in ast.walk(tree) if isinstance(node, ast.Name)]
            bound |= {node.id for node in names if isinstance(node.ctx, ast.Store)}
            bound |= {node.arg for node in ast.walk(tree) if isinstance(node, ast.arg)}
            bound |= {node.name for node in ast.walk(tree) if isinstance(node, ast.FunctionDef)}
            bound |= {node.name for node in ast.walk(tree) if isinstance(node, ast.ExceptHandler)}
            bound |= imported_names(tree)
            self.assertFalse((bound - {"__init__"}) & set(dir(builtins)))
            for node in ast.walk(tree):
                if isinstance(node, ast.Name) and isinstance(node.ctx, ast.Load):
                    self.assertIn(node.id, bound | BUILTINS)
                if isinstance(node, ast.Call) and isinstance(node.func, ast.Attribute):
                    self.assertIn(node.func.attr, METHODS | methods)

    def test_names_have_one_meaning(self):
        for path, _, tree in self.each():
            fixed = imported_names(tree) | {node.name for node in tree.body if isinstance(node, ast.ClassDef)}
            for function in [node for node in ast.walk(tree) if isinstance(node, ast.FunctionDef)]:
                inner = list(ast.walk(function))
                local = {node.id for node in inner if isinstance(node, ast.Name) and isinstance(node.ctx, ast.Store)}
                local |= {node.arg for node in inner if isinstance(node, ast.arg)}
                self.assertFalse(local & fixed, path)
            bound = [name for node in tree.body if isinstance(node, ast.ImportFrom) for name in names_of(node)]
            self.assertEqual(len(bound + sorted(own_names(tree))), len(set(bound) | own_names(tree)), path)

    def test_attributes_and_methods(self):
        methods, attributes = set(), set()
        for _, _, tree in self.each():
            for node in ast.walk(tree):
                if isinstance(node, ast.ClassDef):
                    methods |= {part.name for part in node.body if isinstance(part, ast.FunctionDef)}
                if isinstance(node, ast.Attribute) and isinstance(node.ctx, ast.Store):
                    attributes.add(node.attr)
        self.assertFalse(methods & attributes)
        self.assertFalse((methods - {"__init__"}) & METHODS)
        self.assertFalse(attributes & METHODS)
        self.assertFalse((methods | attributes) & BARRED)

    def test_attributes_are_assigned_through_local_names(self):
        for path, _, tree in self.each():
            for node in ast.walk(tree):
                if isinstance(node, ast.Attribute) and isinstance(node.ctx, ast.Store):
                    self.assertIsInstance(node.value, ast.Name, (path, node.lineno))

    def test_lambdas_calls_and_comparisons(self):
        for path, _, tree in self.each():
            seen = set()
            for node in ast.walk(tree):
                if isinstance(node, ast.Lambda):
                    key = (node.lineno, tuple(part.arg for part in node.args.args))
                    self.assertNotIn(key, seen, path)
                    seen.add(key)
                if isinstance(node, ast.Call):
                    self.assertIsInstance(node.func, (ast.Name, ast.Attribute), (path, node.lineno))
                    for part in node.args:
                        if isinstance(part, ast.Starred):
                            self.assertIsInstance(part.value, ast.Name, (path, node.lineno))
                if isinstance(node, ast.Compare):
                    for word, other in zip(node.ops, node.comparators):
                        if isinstance(word, (ast.Is, ast.IsNot)):
                            self.assertIsInstance(other, ast.Constant, (path, node.lineno))
                            self.assertIn(other.value, (None, True, False))

    def test_imports_are_used(self):
        for path, text, tree in self.each():
            used = {node.id for node in ast.walk(tree) if isinstance(node, ast.Name)}
            self.assertLessEqual(imported_names(tree), used, path)

    def test_generators_and_literal_sets(self):
        for _, _, tree in self.each():
            for node in ast.walk(tree):
                self.assertNotIsInstance(node, (ast.GeneratorExp, ast.Yield, ast.YieldFrom, ast.Set, ast.SetComp))
                if isinstance(node, ast.Call) and isinstance(node.func, ast.Name) and node.func.id == "set":
                    self.assertLessEqual(len(node.args), 1)

    def test_docstrings(self):
        for _, _, tree in self.each():
            self.assertTrue(ast.get_docstring(tree))
            for node in ast.walk(tree):
                if isinstance(node, (ast.FunctionDef, ast.ClassDef)) and node.name != "__init__":
                    self.assertTrue(ast.get_docstring(node), node.name)


def names_of(node):
    return [alias.name for alias in node.names]


def imported_names(tree):
    return {name for node in tree.body if isinstance(node, ast.ImportFrom) for name in names_of(node)}


def own_names(tree):
    names = {node.name for node in tree.body if isinstance(node, (ast.FunctionDef, ast.ClassDef))}
    return names | {target.id for node in tree.body if isinstance(node, ast.Assign) for target in node.targets}


if __name__ == "__main__":
    unittest.main()
