"""The rules of LANGUAGE.md that a look at the written code can tell."""

import ast
import builtins
import os
import re
import unittest

PACKAGE = os.path.join(os.path.dirname(os.path.dirname(os.path.abspath(__file__))), "fewturned")

ALLOWED_NODES = """
    Module FunctionDef ClassDef Return Assign AugAssign For While If Raise Try Expr Pass Break Continue ImportFrom alias
    BoolOp BinOp UnaryOp Lambda IfExp Dict Set ListComp comprehension Compare Call JoinedStr FormattedValue Constant
    Attribute Subscript Name List Tuple Slice arguments arg keyword ExceptHandler Load Store And Or Not USub UAdd Invert
    Add Sub Mult FloorDiv Mod Pow LShift RShift BitOr BitXor BitAnd Eq NotEq Lt LtE Gt GtE Is IsNot In NotIn
""".split()

ALLOWED_BUILTINS = """
    len range enumerate zip min max sum abs sorted reversed int str bool list tuple dict set frozenset isinstance ord
    repr any all divmod Exception ValueError TypeError KeyError IndexError LookupError ZeroDivisionError
    ArithmeticError OverflowError RuntimeError NotImplementedError AttributeError StopIteration
""".split()

ALLOWED_METHODS = """
    append clear copy count endswith extend find get index insert isalnum isalpha isdigit islower isspace isupper items
    join keys ljust lower lstrip partition pop remove replace reverse rfind rjust rpartition rsplit rstrip setdefault
    split splitlines startswith strip update upper values zfill bit_length
""".split()

WORDS_THAT_STAND_NOWHERE = """
    type typing typing_extensions enum Enum IntEnum StrEnum Flag IntFlag Generic Protocol ABC ABCMeta namedtuple
    NamedTuple TypedDict TYPE_CHECKING abstractmethod
""".split()


KEYWORDS = {"sorted": ("key", "reverse"), "min": ("key", "default"), "max": ("key", "default"), "sum": ("start",),
            "enumerate": ("start",), "zip": ("strict",)}

WALKED_AT_ONCE = ("zip", "enumerate", "reversed", "range")
WALKED_METHODS = ("items", "keys", "values")
WALKERS = ("list", "tuple", "dict", "sorted", "sum", "any", "all", "enumerate", "zip", "min", "max")


def called(node):
    """The plain name that a call calls, None of all else."""
    return node.func.id if isinstance(node, ast.Call) and isinstance(node.func, ast.Name) else None


def is_walk(node):
    if called(node) in WALKED_AT_ONCE:
        return True
    return isinstance(node, ast.Call) and isinstance(node.func, ast.Attribute) and node.func.attr in WALKED_METHODS


def source_files():
    names = sorted(name for name in os.listdir(PACKAGE) if name != "__pycache__")
    return [(name, os.path.join(PACKAGE, name)) for name in names]


class Language(unittest.TestCase):
    def files(self):
        for name, path in source_files():
            with open(path, encoding="utf-8") as source:
                text = source.read()
            yield name, text, ast.parse(text)

    def nodes(self):
        for name, text, tree in self.files():
            for node in ast.walk(tree):
                yield f"{name}:{getattr(node, 'lineno', 0)}", node

    def test_files(self):
        names = [name for name, path in source_files()]
        self.assertIn("__init__.py", names)
        for name, path in source_files():
            self.assertTrue(os.path.isfile(path))
            self.assertRegex(name, r"\A(__init__|__main__|[a-z][a-z0-9_]*)\.py\Z")

    def test_signs_words_and_sizes(self):
        for name, text, tree in self.files():
            self.assertRegex(text, r"\A[ -~\n]*\Z", name)
            self.assertLessEqual(len(text.splitlines()), 400, name)
            self.assertLessEqual(max(map(len, text.splitlines())), 120, name)
            words = set(re.findall(r"\w+", text))
            self.assertEqual(words & set(WORDS_THAT_STAND_NOWHERE), set(), name)
            self.assertNotRegex(text, "dataclass|overload|contextmanager", name)

    def test_forms(self):
        for where, node in self.nodes():
            self.assertIn(type(node).__name__, ALLOWED_NODES, where)
            if isinstance(node, ast.FunctionDef):
                given = node.args
                self.assertFalse(node.decorator_list or given.vararg or given.kwarg or given.kwonlyargs, where)
                self.assertLessEqual(node.end_lineno - node.lineno + 1, 40, where)
            if isinstance(node, ast.Assign):
                self.assertEqual(len(node.targets), 1, where)
            if isinstance(node, (ast.For, ast.While)):
                self.assertEqual(node.orelse, [], where)
            if isinstance(node, ast.ListComp):
                self.assertEqual(len(node.generators), 1, where)
                self.assertLessEqual(len(node.generators[0].ifs), 1, where)
            if isinstance(node, ast.Constant):
                self.assertIn(type(node.value), (int, str, bool, type(None)), where)
            if isinstance(node, ast.Compare) and isinstance(node.ops[0], (ast.Is, ast.IsNot)):
                self.assertIsInstance(node.comparators[0], ast.Constant, where)

    def test_imports_are_of_the_package_and_go_one_way(self):
        drawn = {}
        for name, text, tree in self.files():
            rows = [node for node in ast.walk(tree) if isinstance(node, ast.ImportFrom)]
            for row in rows:
                self.assertRegex(row.module, r"\Afewturned\.[a-z_]+\Z", name)
                self.assertEqual(row.level, 0, name)
                self.assertIn(row, tree.body, name)
            drawn[name[:-3]] = [row.module.split(".")[1] for row in rows]
        while drawn:
            ends = [name for name in drawn if not set(drawn[name]) & set(drawn)]
            self.assertTrue(ends, "files draw from one another")
            for name in ends:
                del drawn[name]

    def test_names(self):
        for where, node in self.nodes():
            bound = []
            if isinstance(node, ast.Name) and isinstance(node.ctx, ast.Load) and hasattr(builtins, node.id):
                self.assertIn(node.id, ALLOWED_BUILTINS, where)
            if isinstance(node, ast.Name) and isinstance(node.ctx, ast.Store):
                bound.append(node.id)
            if isinstance(node, (ast.FunctionDef, ast.ClassDef)):
                bound.append(node.name)
            if isinstance(node, ast.arg):
                bound.append(node.arg)
            for name in bound:
                self.assertRegex(name, r"\A([A-Za-z][A-Za-z0-9_]*|__(init|eq|repr|str|len)__)\Z", where)
                self.assertFalse(hasattr(builtins, name), where)

    def test_methods_of_pythons_own_values(self):
        own = [node.name for where, node in self.nodes() if isinstance(node, ast.FunctionDef)]
        for where, node in self.nodes():
            if isinstance(node, ast.Call) and isinstance(node.func, ast.Attribute):
                self.assertIn(node.func.attr, ALLOWED_METHODS + own, where)

    def test_keywords(self):
        for where, node in self.nodes():
            if isinstance(node, ast.Call):
                for word in node.keywords:
                    self.assertIn(word.arg, KEYWORDS.get(called(node), ()), where)

    def test_what_is_walked_at_once(self):
        for name, text, tree in self.files():
            walked = []
            for node in ast.walk(tree):
                if isinstance(node, (ast.For, ast.comprehension)):
                    walked.append(node.iter)
                if called(node) in WALKERS:
                    walked.extend(node.args)
            for node in ast.walk(tree):
                if is_walk(node):
                    self.assertIn(node, walked, f"{name}:{node.lineno}")

    def test_what_a_loop_walks_is_not_changed_in_it(self):
        for where, node in self.nodes():
            if isinstance(node, ast.For):
                walked = {part.id for part in ast.walk(node.iter) if isinstance(part, ast.Name)}
                for part in [part for row in node.body for part in ast.walk(row)]:
                    if isinstance(part, (ast.Attribute, ast.Subscript)) and isinstance(part.value, ast.Name):
                        changes = isinstance(part.ctx, ast.Store) or getattr(part, "attr", "") in (
                            "append", "clear", "extend", "insert", "pop", "remove", "reverse", "setdefault", "update")
                        self.assertFalse(changes and part.value.id in walked, where)

    def test_sets_are_not_kept(self):
        for name, text, tree in self.files():
            within = [node.args[0] for node in ast.walk(tree) if called(node) in ("len", "sorted")]
            for node in ast.walk(tree):
                self.assertNotIsInstance(node, ast.Set, name)
                if called(node) in ("set", "frozenset"):
                    self.assertIn(node, within, f"{name}:{node.lineno}")

    def test_texts_and_powers(self):
        for where, node in self.nodes():
            if isinstance(node, ast.Constant) and isinstance(node.value, str):
                self.assertNotIn("%", node.value, where)
            if isinstance(node, ast.BinOp) and isinstance(node.op, ast.Pow):
                self.assertIsInstance(node.right, ast.Constant, where)

    def test_texts_with_names_in_them(self):
        for where, node in self.nodes():
            if isinstance(node, ast.FormattedValue):
                self.assertIsInstance(node.value, ast.Name, where)
                self.assertIn(node.conversion, (-1, ord("r")), where)
                self.assertIsNone(node.format_spec, where)

    def test_methods_are_called_where_they_stand(self):
        for name, text, tree in self.files():
            at_once = [node.func for node in ast.walk(tree) if isinstance(node, ast.Call)]
            for node in ast.walk(tree):
                if isinstance(node, ast.Attribute):
                    self.assertIn(node, at_once, f"{name}:{node.lineno}")

    def test_locals_are_not_called_like_what_the_file_has(self):
        for name, text, tree in self.files():
            top = [node.name for node in tree.body if isinstance(node, (ast.FunctionDef, ast.ClassDef))]
            for node in tree.body:
                if isinstance(node, ast.ImportFrom):
                    top.extend(alias.asname or alias.name for alias in node.names)
                if isinstance(node, ast.Assign):
                    top.append(node.targets[0].id)
            self.assertEqual(len(top), len(set(top)), name)
            for node in ast.walk(tree):
                if isinstance(node, ast.FunctionDef):
                    inner = [part.arg for part in ast.walk(node) if isinstance(part, ast.arg)]
                    inner.extend(part.id for part in ast.walk(node)
                                 if isinstance(part, ast.Name) and isinstance(part.ctx, ast.Store))
                    self.assertEqual(set(inner) & set(top), set(), f"{name}:{node.lineno}")


if __name__ == "__main__":
    unittest.main()
