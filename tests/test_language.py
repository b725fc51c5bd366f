"""The package keeps to its subset of Python: the rules that a syntax tree shows."""

import ast
import builtins
import os
import re
import unittest

ROOT = os.path.join(os.path.dirname(os.path.abspath(__file__)), "..", "fallgain")

BUILTINS = set("""
len range enumerate zip min max sum abs sorted reversed int str bool list tuple dict set isinstance ord repr any all
divmod Exception ValueError TypeError KeyError IndexError LookupError ZeroDivisionError ArithmeticError OverflowError
RuntimeError NotImplementedError
""".split())

METHODS = set("""
append clear copy count endswith extend find get index insert isalnum isalpha isdigit islower isspace isupper items
join keys ljust lower lstrip partition pop remove replace reverse rfind rjust rpartition rsplit rstrip setdefault
split splitlines startswith strip update upper values zfill bit_length add discard sort
""".split())

BARRED_WORDS = set("""
type typing typing_extensions enum Enum IntEnum StrEnum Flag IntFlag Generic Protocol ABC ABCMeta namedtuple
NamedTuple TypedDict TYPE_CHECKING abstractmethod
""".split())

BARRED_NAMES = set("""
register mro elements open input version_info with_traceback add_note attrgetter breakpoint compile copyright credits
delattr dir eval exec exit gc getattr globals hasattr help id importlib license locals methodcaller os quit setattr
super vars sys
""".split())

BARRED_NODES = (ast.Global, ast.AsyncFunctionDef, ast.AsyncFor, ast.AsyncWith, ast.Await, ast.Div, ast.Import)


def file_names():
    return sorted(name for name in os.listdir(ROOT) if name != "__pycache__")


def read(name):
    with open(os.path.join(ROOT, name), encoding="utf-8", newline="") as file:
        return file.read()


def functions_of(tree):
    return [node for node in ast.walk(tree) if isinstance(node, ast.FunctionDef)]


def parameters_of(function):
    given = function.args
    return [part.arg for part in given.posonlyargs + given.args + given.kwonlyargs]


def local_names(function):
    stored = [node.id for node in ast.walk(function) if isinstance(node, ast.Name) and isinstance(node.ctx, ast.Store)]
    return set(parameters_of(function)) | set(stored)


def top_names(tree):
    names = []
    for node in tree.body:
        if isinstance(node, (ast.FunctionDef, ast.ClassDef)):
            names.append(node.name)
        elif isinstance(node, ast.Assign):
            names.extend(target.id for target in node.targets)
    return names


def imports_of(tree):
    return [node for node in tree.body if isinstance(node, ast.ImportFrom)]


def imported_names(tree):
    return [alias.asname or alias.name for node in imports_of(tree) for alias in node.names]


class LanguageTest(unittest.TestCase):
    def each(self):
        for name in file_names():
            with self.subTest(name):
                yield name, ast.parse(read(name))

    def test_files(self):
        self.assertIn("__init__.py", file_names())
        for name in file_names():
            self.assertRegex(name, r"\A[a-z0-9_]+\.py\Z")
            text = read(name)
            self.assertRegex(text, r"\A[ -~\n]*\Z")
            self.assertLessEqual(len(text.splitlines()), 400)
            for line in text.splitlines():
                self.assertLessEqual(len(line), 120)
            self.assertEqual(sorted(set(re.findall(r"\w+", text)) & BARRED_WORDS), [])
            self.assertNotRegex(text, "dataclass|overload|contextmanager")

    def test_module_level(self):
        allowed = (ast.ImportFrom, ast.FunctionDef, ast.ClassDef, ast.Assign)
        for name, tree in self.each():
            body = tree.body[1:] if ast.get_docstring(tree) else tree.body
            self.assertTrue(all(isinstance(node, allowed) for node in body))
            names = top_names(tree) + imported_names(tree)
            self.assertEqual(len(names), len(set(names)))

    def test_imports_name_the_file_that_defines(self):
        for name, tree in self.each():
            for node in imports_of(tree):
                self.assertEqual(node.level, 0)
                package, dot, module = node.module.partition(".")
                self.assertEqual(package, "fallgain")
                known = top_names(ast.parse(read(module + ".py")))
                for alias in node.names:
                    self.assertIn(alias.name, known)

    def test_imports_run_in_no_ring(self):
        needs = {name: {node.module.partition(".")[2] + ".py" for node in imports_of(tree)} for name, tree in self.each()}
        while needs:
            free = [name for name in needs if not needs[name]]
            self.assertNotEqual(free, [], needs)
            needs = {name: needs[name] - set(free) for name in needs if name not in free}

    def test_imports_are_used(self):
        for name, tree in self.each():
            used = {node.id for node in ast.walk(tree) if isinstance(node, ast.Name)}
            self.assertEqual(sorted(set(imported_names(tree)) - used), [])

    def test_functions_are_small_and_plain(self):
        for name, tree in self.each():
            for function in functions_of(tree):
                self.assertLessEqual(function.end_lineno - function.lineno + 1, 40)
                self.assertEqual(function.decorator_list, [])
                self.assertEqual(function.args.posonlyargs, [])

    def test_nothing_barred_is_written(self):
        for name, tree in self.each():
            for node in ast.walk(tree):
                self.assertNotIsInstance(node, BARRED_NODES)
                if isinstance(node, ast.Constant):
                    self.assertNotIsInstance(node.value, (float, complex))
                    self.assertNotIn("%", str(node.value))
                if isinstance(node, ast.Compare) and any(isinstance(sign, (ast.Is, ast.IsNot)) for sign in node.ops):
                    self.assertTrue(all(isinstance(side, ast.Constant) for side in node.comparators))

    def test_every_name_is_known(self):
        for name, tree in self.each():
            top = set(top_names(tree)) | set(imported_names(tree))
            for function in functions_of(tree):
                known = top | local_names(function) | BUILTINS
                lambdas = [node for node in ast.walk(function) if isinstance(node, ast.Lambda)]
                known |= {part for inner in lambdas for part in parameters_of(inner)}
                used = {node.id for node in ast.walk(function) if isinstance(node, ast.Name)}
                self.assertEqual(sorted(used - known), [])

    def test_names_hide_nothing(self):
        for name, tree in self.each():
            classes = [node.name for node in ast.walk(tree) if isinstance(node, ast.ClassDef)]
            taken = set(classes) | set(imported_names(tree)) | set(dir(builtins)) | BARRED_NAMES
            for function in functions_of(tree):
                self.assertEqual(sorted(local_names(function) & taken), [])
            names = {part for function in functions_of(tree) for part in local_names(function)} | set(top_names(tree))
            for part in sorted(names):
                self.assertRegex(part, r"\A[A-Za-z][A-Za-z0-9_]*\Z")
            self.assertEqual(sorted(set(top_names(tree)) & (set(dir(builtins)) | BARRED_NAMES)), [])

    def test_methods_and_attributes_are_unlike(self):
        methods, attributes, read = set(), set(), set()
        for name, tree in self.each():
            for node in ast.walk(tree):
                if isinstance(node, ast.ClassDef):
                    methods |= {part.name for part in node.body if isinstance(part, ast.FunctionDef)}
                if isinstance(node, ast.Attribute):
                    (attributes if isinstance(node.ctx, ast.Store) else read).add(node.attr)
        self.assertEqual(sorted(methods & attributes), [])
        self.assertEqual(sorted(attributes & set(dir(str) + dir(list) + dir(dict) + dir(set) + dir(int))), [])
        self.assertEqual(sorted(read - methods - attributes - METHODS), [])

    def test_classes_are_plain(self):
        for name, tree in self.each():
            for node in ast.walk(tree):
                if isinstance(node, ast.ClassDef):
                    self.assertIn(node, tree.body)
                    self.assertEqual(node.decorator_list, [])
                    names = [part.name for part in node.body if isinstance(part, ast.FunctionDef)]
                    self.assertEqual(len(names), len(set(names)))
                    self.assertEqual([part for part in names if part.startswith("_") and part != "__init__"], [])

    def test_methods_are_allowed_ones(self):
        own = {function.name for name in file_names() for function in functions_of(ast.parse(read(name)))}
        for name, tree in self.each():
            for node in ast.walk(tree):
                if isinstance(node, ast.Call) and isinstance(node.func, ast.Attribute):
                    self.assertIn(node.func.attr, METHODS | own)


if __name__ == "__main__":
    unittest.main()
