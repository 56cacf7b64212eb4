"""Checks of those rules of the Python subset that can be seen in the code of one file."""

import ast
import builtins
import io
import pathlib
import re
import tokenize
import unittest

PACKAGE = pathlib.Path(__file__).resolve().parent.parent / "neverpenned"

LIBRARY = ("heapq", "math", "itertools", "collections")

BUILTINS = set("""
    len range enumerate zip min max sum abs sorted reversed int str bool list tuple dict set isinstance ord repr any
    all divmod map iter property classmethod staticmethod super NotImplemented Exception ValueError TypeError KeyError
    IndexError LookupError ZeroDivisionError ArithmeticError OverflowError RuntimeError NotImplementedError
""".split())

METHODS = set("""
    __init__ __eq__ __repr__ __str__ __len__ __enter__ __exit__ __call__ __iter__ __lt__ __le__ __gt__ __ge__ __ne__
    __add__ __sub__ __mul__ __floordiv__ __mod__ __pow__ __and__ __or__ __xor__ __lshift__ __rshift__
    __iadd__ __isub__ __imul__ __ior__ __iand__ __ixor__ __neg__ __pos__ __invert__ __abs__ __bool__ __contains__
    __getitem__ __setitem__
""".split())

BARRED_NAMES = set("""
    register mro elements open input law version_info with_traceback add_note attrgetter breakpoint builtins compile
    copyright credits delattr dir eval exec exit gc getattr globals hasattr help id importlib license locals
    methodcaller os quit setattr super type vars sys _record _outside _cold _tuplegetter _written_out _member_names
""".split())

BARRED_WORDS = re.compile(r"\b(type|typing|typing_extensions|enum|Enum|IntEnum|StrEnum|Flag|IntFlag|Generic|Protocol|"
                          r"ABC|ABCMeta|namedtuple|NamedTuple|TypedDict|TYPE_CHECKING|abstractmethod)\b"
                          r"|dataclass|overload|contextmanager|_wall\b|_WallAttr")

CHANGING = set("append clear extend insert pop remove reverse setdefault update sort".split())

# The attributes that are added by += and are numbers.
NUMBERS = ("self._span",)

# What the rules bar altogether, or bar for now in a package whose classes have operators, lengths and iteration.
BARRED_NODES = (ast.GeneratorExp, ast.SetComp, ast.Global, ast.AsyncFunctionDef, ast.Await, ast.Div, ast.AnnAssign)


def files():
    return sorted(path for path in PACKAGE.rglob("*") if "__pycache__" not in path.parts)


def trees():
    return [(path.name, ast.parse(path.read_text("utf-8"))) for path in files()]


def functions(tree):
    return [node for node in ast.walk(tree) if isinstance(node, ast.FunctionDef)]


def docstrings(tree):
    holders = [node for node in ast.walk(tree) if isinstance(node, (ast.Module, ast.ClassDef, ast.FunctionDef))]
    return [node.body[0].value for node in holders if ast.get_docstring(node) is not None]


def bound_names(node):
    """The parameters and the assigned names of a function or a module."""
    names = [part.arg for part in ast.walk(node) if isinstance(part, ast.arg)]
    names.extend(part.id for part in ast.walk(node) if isinstance(part, ast.Name) and isinstance(part.ctx, ast.Store))
    names.extend(part.name for part in ast.walk(node) if isinstance(part, ast.ExceptHandler) and part.name)
    return names


def walked_names(node):
    """The names and attributes that a loop goes over, but not those of which it goes over a copy."""
    if isinstance(node, ast.Call) and ast.unparse(node.func) in ("list", "sorted", "tuple", "dict"):
        return []
    told = [ast.unparse(node)] if isinstance(node, (ast.Name, ast.Attribute)) else []
    return told + [name for part in ast.iter_child_nodes(node) for name in walked_names(part)]


def changed_names(rows):
    """The names and attributes that these rows change in place."""
    names = []
    for node in [part for row in rows for part in ast.walk(row)]:
        if isinstance(node, ast.Call) and isinstance(node.func, ast.Attribute) and node.func.attr in CHANGING:
            names.append(ast.unparse(node.func.value))
        targets = node.targets if isinstance(node, (ast.Assign, ast.Delete)) else []
        targets = [node.target] if isinstance(node, ast.AugAssign) else targets
        names.extend(ast.unparse(target.value) for target in targets if isinstance(target, ast.Subscript))
    return names


def other_names(function):
    """For each name those that it is given as another name of the very same thing, in either direction."""
    pairs = [(ast.unparse(target), ast.unparse(node.value)) for node in ast.walk(function)
             if isinstance(node, ast.Assign) and isinstance(node.value, (ast.Name, ast.Attribute))
             for target in node.targets]
    return pairs + [(b, a) for a, b in pairs]


def is_number(node):
    """Tell whether what is added by += plainly is a number."""
    if isinstance(node, ast.Call):
        return ast.unparse(node.func).rpartition(".")[2] in ("count", "len")
    return isinstance(node, ast.Constant) or ast.unparse(node) in NUMBERS


class LanguageTest(unittest.TestCase):
    def test_files_and_sizes(self):
        for path in files():
            self.assertRegex(path.name, r"^[a-z0-9_]+\.py$")
            text = path.read_bytes().decode("ascii")
            self.assertRegex(text, r"^[ -~\n]*$", path.name)
            lines = text.split("\n")
            self.assertLess(len(lines), 400, path.name)
            self.assertLessEqual(max(len(line) for line in lines), 120, path.name)
        for name, tree in trees():
            for node in functions(tree):
                self.assertLessEqual(node.end_lineno - node.lineno + 1, 40, f"{name}: {node.name}")

    def test_what_stands_at_module_level(self):
        for name, tree in trees():
            body = tree.body[1:]
            self.assertIsNotNone(ast.get_docstring(tree), name)
            self.assertEqual([isinstance(node, ast.ImportFrom) for node in body],
                             sorted((isinstance(node, ast.ImportFrom) for node in body), reverse=True), name)
            for node in body:
                self.assertIsInstance(node, (ast.ImportFrom, ast.FunctionDef, ast.ClassDef, ast.Assign), name)
                if isinstance(node, ast.Assign):
                    self.assertIsInstance(node.targets[0], ast.Name, name)
                    ast.literal_eval(node.value)

    def test_imports_name_the_file_that_defines_the_name(self):
        defined = {}
        for name, tree in trees():
            defined["neverpenned." + name[:-3]] = (
                [node.name for node in tree.body if isinstance(node, (ast.FunctionDef, ast.ClassDef))]
                + [node.targets[0].id for node in tree.body if isinstance(node, ast.Assign)])
        for name, tree in trees():
            for node in ast.walk(tree):
                self.assertNotIsInstance(node, ast.Import, name)
                if isinstance(node, ast.ImportFrom) and node.module not in LIBRARY:
                    for told in node.names:
                        self.assertIn(told.name, defined[node.module], name)
                        self.assertIsNone(told.asname, name)

    def test_no_two_files_import_from_each_other(self):
        imported = {name[:-3]: [node.module.partition(".")[2] for node in tree.body if isinstance(node, ast.ImportFrom)
                                and node.module.startswith("neverpenned.")] for name, tree in trees()}
        while imported:
            lowest = [name for name in imported if not any(other in imported for other in imported[name])]
            self.assertNotEqual(lowest, [], sorted(imported))
            for name in lowest:
                del imported[name]

    def test_what_is_imported_is_used(self):
        for name, tree in trees():
            used = [node.id for node in ast.walk(tree) if isinstance(node, ast.Name)]
            for node in tree.body:
                for told in node.names if isinstance(node, ast.ImportFrom) else ():
                    self.assertIn(told.name, used, name)

    def test_what_is_iterated_at_once(self):
        for name, tree in trees():
            iterated = [node.iter for node in ast.walk(tree) if isinstance(node, (ast.For, ast.comprehension))]
            for node in ast.walk(tree):
                if isinstance(node, ast.Call) and isinstance(node.func, ast.Name):
                    iterated.extend(node.args)
            ranges = [node.value for node in ast.walk(tree) if isinstance(node, ast.Assign)]
            for node in ast.walk(tree):
                if isinstance(node, ast.Call):
                    word = ast.unparse(node.func).rpartition(".")[2]
                    if word in ("range", "zip", "enumerate", "reversed", "items", "keys", "values"):
                        at_once = any(node is told for told in iterated)
                        kept = word == "range" and any(node is told for told in ranges)
                        self.assertTrue(at_once or kept, f"{name}: {node.lineno}")

    def test_what_a_loop_walks_is_not_changed_in_it_under_any_name(self):
        for name, tree in trees():
            for function in functions(tree):
                pairs = other_names(function)
                for node in [part for part in ast.walk(function) if isinstance(part, ast.For)]:
                    changed = changed_names(node.body)
                    for walked in walked_names(node.iter):
                        self.assertNotIn(walked, changed, f"{name}: {node.lineno}")
                        for other in [b for a, b in pairs if a == walked]:
                            self.assertNotIn(other, changed, f"{name}: {node.lineno}")

    def test_what_is_added_to_a_list_is_a_list_of_its_own(self):
        for name, tree in trees():
            for node in ast.walk(tree):
                if isinstance(node, ast.Call) and ast.unparse(node.func).rpartition(".")[2] in ("extend", "update"):
                    told = node.args[0]
                    copied = isinstance(told, ast.Call) and ast.unparse(told.func) == "list"
                    self.assertTrue(copied or isinstance(told, (ast.List, ast.ListComp)), f"{name}: {node.lineno}")
                if isinstance(node, ast.AugAssign) and isinstance(node.op, (ast.Add, ast.BitOr)):
                    self.assertTrue(is_number(node.value), f"{name}: {node.lineno}")

    def test_names(self):
        for name, tree in trees():
            taken = [told.name for node in tree.body if isinstance(node, ast.ImportFrom) for told in node.names]
            taken.extend(node.name for node in tree.body if isinstance(node, ast.ClassDef))
            bound = bound_names(tree)
            called = [node.name for node in ast.walk(tree) if isinstance(node, (ast.FunctionDef, ast.ClassDef))]
            for word in bound:
                self.assertNotIn(word, taken, name)
            for word in [*bound, *called, *taken]:
                self.assertNotIn(word, BARRED_NAMES, name)
                self.assertTrue(word in METHODS or not hasattr(builtins, word), f"{name}: {word}")
                self.assertTrue(word in METHODS or not word.startswith("__"), f"{name}: {word}")
            known = {*bound, *called, *taken, "_"}
            for node in ast.walk(tree):
                if isinstance(node, ast.Name) and isinstance(node.ctx, ast.Load):
                    self.assertTrue(node.id in known or node.id in BUILTINS, f"{name}: {node.id}")
                    self.assertNotEqual(node.id, "_", name)

    def test_what_is_not_used(self):
        for name, tree in trees():
            for node in ast.walk(tree):
                self.assertNotIsInstance(node, BARRED_NODES, name)
                if isinstance(node, ast.Subscript) and isinstance(node.slice, ast.Tuple):
                    self.assertFalse(any(isinstance(part, ast.Starred) for part in node.slice.elts), name)
                if isinstance(node, ast.Compare) and isinstance(node.ops[0], (ast.Is, ast.IsNot)):
                    self.assertIsInstance(node.comparators[0], ast.Constant, name)
                if isinstance(node, (ast.FunctionDef, ast.ClassDef)):
                    for mark in node.decorator_list:
                        self.assertIn(ast.unparse(mark), ("property", "classmethod", "staticmethod"), name)

    def test_words_and_signs_in_strings(self):
        for path in files():
            text = path.read_text("utf-8")
            tree = ast.parse(text)
            kept = docstrings(tree)
            for node in ast.walk(tree):
                if isinstance(node, ast.Constant):
                    self.assertNotIsInstance(node.value, (float, complex, bytes), path.name)
                    if isinstance(node.value, str) and not any(node is told for told in kept):
                        self.assertNotIn("%", node.value, path.name)
                        self.assertIsNone(BARRED_WORDS.search(node.value), path.name)
            for token in tokenize.generate_tokens(io.StringIO(text).readline):
                if token.type == tokenize.NAME:
                    self.assertIsNone(BARRED_WORDS.search(token.string), f"{path.name}: {token.string}")


if __name__ == "__main__":
    unittest.main()
