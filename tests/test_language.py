"""Rules of LANGUAGE.md that can be seen in the files of the package."""

import ast
import builtins
import pathlib
import re
import unittest

FOLDER = pathlib.Path(__file__).parent.parent / "wirebox"
FILES = sorted(path for path in FOLDER.rglob("*.py"))
BUILTINS = """len range enumerate zip min max sum abs sorted reversed int str bool bytes list tuple dict set frozenset
isinstance ord repr any all divmod pow getattr hasattr setattr iter next type map super property staticmethod classmethod
Exception ValueError TypeError KeyError IndexError LookupError ZeroDivisionError ArithmeticError OverflowError RuntimeError
NotImplementedError AttributeError StopIteration NotImplemented""".split()
METHODS = """append clear copy count endswith extend find get index insert isalnum isalpha isdigit islower isspace isupper items
join keys ljust lower lstrip partition pop remove replace reverse rfind rjust rpartition rsplit rstrip setdefault split splitlines
startswith strip update upper values zfill bit_length title capitalize swapcase casefold center expandtabs removeprefix
removesuffix rindex isascii isdecimal isnumeric istitle isidentifier isprintable encode decode hex translate sort format
add discard""".split()
LIBRARY = {
    "heapq": "heappush heappop heapify heapreplace heappushpop", "math": "gcd lcm isqrt comb perm factorial",
    "itertools": "product combinations permutations chain accumulate pairwise islice zip_longest",
    "collections": "defaultdict deque", "__future__": "annotations",
}
BANNED = re.compile(r"""(?<![A-Za-z0-9_])(typing|typing_extensions|enum|Enum|IntEnum|StrEnum|Flag|IntFlag|Generic|Protocol|ABC|ABCMeta
|namedtuple|NamedTuple|TypedDict|TYPE_CHECKING|abstractmethod)(?![A-Za-z0-9_])|dataclass|overload|contextmanager|_wall|_WallAttr""", re.X)
NEVER = "register mro elements open input law version_info with_traceback add_note".split()
REFUSED = (
    ast.AsyncFor, ast.AsyncFunctionDef, ast.AsyncWith, ast.Await, ast.Div, ast.Import, ast.MatMult, ast.TryStar,
)
OWN_DOUBLE = """__init__ __eq__ __repr__ __str__ __len__ __enter__ __exit__ __call__ __iter__ __slots__ __class__ __name__ __lt__ __le__
__gt__ __ge__ __ne__ __add__ __sub__ __mul__ __contains__ __getitem__ __setitem__ __bool__""".split()


def tree_of(path):
    return ast.parse(path.read_text(encoding="ascii"))


def without_docstrings(tree):
    """The strings of a file but for its docstrings."""
    docs = set()
    for node in ast.walk(tree):
        if isinstance(node, (ast.Module, ast.ClassDef, ast.FunctionDef)) and ast.get_docstring(node, clean=False) is not None:
            docs.add(node.body[0].value)
    return [node for node in ast.walk(tree) if isinstance(node, ast.Constant) and node not in docs]


def bound_names(tree):
    """All names that a file gives a meaning."""
    for node in ast.walk(tree):
        if isinstance(node, ast.Name) and not isinstance(node.ctx, ast.Load):
            yield node.id
        elif isinstance(node, ast.arg):
            yield node.arg
        elif isinstance(node, ast.ClassDef):
            yield node.name
        elif isinstance(node, ast.ImportFrom):
            yield from [alias.asname or alias.name for alias in node.names]
    methods = {part for node in ast.walk(tree) if isinstance(node, ast.ClassDef) for part in node.body}
    for node in ast.walk(tree):
        if isinstance(node, ast.FunctionDef) and node not in methods:
            yield node.name


def defined_in(path):
    """The functions, classes and values that stand at the module level of a file."""
    found = []
    for node in tree_of(path).body:
        if isinstance(node, (ast.FunctionDef, ast.ClassDef)):
            found.append(node.name)
        elif isinstance(node, ast.Assign):
            found += [target.id for target in node.targets]
    return found


def file_of(module):
    return FOLDER.parent / (module.replace(".", "/") + ".py")


class LanguageTest(unittest.TestCase):
    def test_the_folder_has_nothing_but_files_of_the_program(self):
        self.assertIn(FOLDER / "__init__.py", FILES)
        for path in FOLDER.rglob("*"):
            if "__pycache__" not in path.parts:
                self.assertTrue(path.is_dir() or re.fullmatch(r"[a-z0-9_]+\.py", path.name), path)

    def test_signs_lines_and_sizes(self):
        for path in FILES:
            text = path.read_text(encoding="utf-8")
            self.assertTrue(all(" " <= sign <= "~" or sign == "\n" for sign in text), path)
            lines = text.split("\n")
            self.assertLess(len(lines), 400, path)
            self.assertLessEqual(max(len(line) for line in lines), 120, path)
            for node in ast.walk(tree_of(path)):
                if isinstance(node, ast.FunctionDef):
                    self.assertLessEqual(node.end_lineno - node.lineno + 1, 40, (path, node.name))

    def test_imports(self):
        needs = {}
        for path in FILES:
            needs[path] = []
            for node in tree_of(path).body:
                if not isinstance(node, ast.ImportFrom):
                    continue
                self.assertEqual(node.level, 0, path)
                names = [alias.name for alias in node.names]
                if node.module in LIBRARY:
                    self.assertTrue(set(names) <= set(LIBRARY[node.module].split()), path)
                    continue
                self.assertTrue(node.module.startswith("wirebox."), path)
                self.assertTrue(set(names) <= set(defined_in(file_of(node.module))), (path, names))
                needs[path].append(file_of(node.module))
        while needs:
            free = [path for path, files in needs.items() if not any(other in needs for other in files)]
            self.assertTrue(free, f"files import each other: {sorted(needs)}")
            needs = {path: files for path, files in needs.items() if path not in free}

    def test_module_level(self):
        for path in FILES:
            names = []
            for node in tree_of(path).body:
                if isinstance(node, ast.Expr):
                    self.assertIsInstance(node.value, ast.Constant, path)
                else:
                    self.assertIsInstance(node, (ast.ImportFrom, ast.FunctionDef, ast.ClassDef, ast.Assign), path)
                if isinstance(node, ast.ImportFrom):
                    names += [alias.asname or alias.name for alias in node.names]
            names += defined_in(path)
            self.assertEqual(len(names), len(set(names)), path)

    def test_statements_and_values(self):
        for path in FILES:
            tree = tree_of(path)
            for node in ast.walk(tree):
                self.assertNotIsInstance(node, REFUSED, (path, getattr(node, "lineno", 0)))
            for node in without_docstrings(tree):
                self.assertNotIsInstance(node.value, (float, complex), path)
                if isinstance(node.value, str):
                    self.assertNotIn("%", node.value, (path, node.lineno))

    def test_names(self):
        for path in FILES:
            tree = tree_of(path)
            bound = list(bound_names(tree))
            for name in bound:
                self.assertFalse(hasattr(builtins, name), (path, name))
                self.assertFalse(name.startswith("__"), (path, name))
            for node in ast.walk(tree):
                if isinstance(node, ast.Name) and hasattr(builtins, node.id):
                    self.assertIn(node.id, BUILTINS, (path, node.lineno))
                for field in ("id", "attr", "name", "arg"):
                    name = getattr(node, field, None)
                    self.assertNotIn(name, NEVER, path)
                    if isinstance(name, str) and name.startswith("__"):
                        self.assertIn(name, OWN_DOUBLE, path)

    def test_words_that_do_not_occur(self):
        for path in FILES:
            tree = tree_of(path)
            shown = [node.value for node in without_docstrings(tree) if isinstance(node.value, str)]
            shown += list(bound_names(tree)) + [node.attr for node in ast.walk(tree) if isinstance(node, ast.Attribute)]
            for text in shown:
                self.assertIsNone(BANNED.search(text), (path, text))

    def test_methods_of_builtin_values(self):
        kinds = (str, int, list, dict, tuple, set, bytes)
        for path in FILES:
            for node in ast.walk(tree_of(path)):
                if isinstance(node, ast.Attribute) and any(hasattr(kind, node.attr) for kind in kinds):
                    self.assertIn(node.attr, METHODS + OWN_DOUBLE, (path, node.lineno))

    def test_locals_have_no_name_of_a_class_or_import(self):
        for path in FILES:
            tree = tree_of(path)
            outer = [node.name for node in tree.body if isinstance(node, ast.ClassDef)]
            for node in tree.body:
                if isinstance(node, ast.ImportFrom):
                    outer += [alias.asname or alias.name for alias in node.names]
            for function in ast.walk(tree):
                if isinstance(function, ast.FunctionDef):
                    for node in ast.walk(function):
                        if isinstance(node, ast.arg):
                            self.assertNotIn(node.arg, outer, path)
                        elif isinstance(node, ast.Name) and not isinstance(node.ctx, ast.Load):
                            self.assertNotIn(node.id, outer, path)

    def test_what_stands_beside_is(self):
        for path in FILES:
            for node in ast.walk(tree_of(path)):
                if isinstance(node, ast.Compare):
                    for sign, value in zip(node.ops, node.comparators):
                        if isinstance(sign, (ast.Is, ast.IsNot)):
                            self.assertIsInstance(value, ast.Constant, (path, node.lineno))
                            self.assertTrue(value.value is None or isinstance(value.value, bool), (path, node.lineno))

    def test_errors_are_created_where_they_are_raised(self):
        for path in FILES:
            for node in ast.walk(tree_of(path)):
                if isinstance(node, ast.Raise):
                    self.assertIsInstance(node.exc, ast.Call, (path, node.lineno))
                    self.assertRegex(node.exc.func.id, r"\A[A-Z]")
                elif isinstance(node, ast.ExceptHandler):
                    for caught in getattr(node.type, "elts", [node.type]):
                        self.assertNotIn(caught.id, ("Exception", "ValueError", "LookupError", "IndexError"), (path, node.lineno))

    def test_beside_classes_that_compare(self):
        for path in FILES:
            for node in ast.walk(tree_of(path)):
                self.assertNotIsInstance(node, (ast.GeneratorExp, ast.Set, ast.SetComp, ast.Yield), (path, getattr(node, "lineno", 0)))
                if isinstance(node, ast.Attribute):
                    self.assertNotEqual(node.attr, "sort", (path, node.lineno))
                if isinstance(node, ast.FunctionDef) and node.name == "__eq__":
                    self.assertEqual([line.__class__ for line in node.body], [ast.Return], (path, node.lineno))

    def test_attributes_and_properties(self):
        assigned, read, methods, properties = {}, {}, {}, {}
        for path in FILES:
            for node in ast.walk(tree_of(path)):
                if isinstance(node, ast.Attribute):
                    (read if isinstance(node.ctx, ast.Load) else assigned)[node.attr] = (path, node.lineno)
                    if not isinstance(node.ctx, ast.Load):
                        self.assertIsInstance(node.value, ast.Name, (path, node.lineno))
                elif isinstance(node, ast.ClassDef):
                    for part in node.body:
                        if isinstance(part, ast.FunctionDef):
                            (properties if part.decorator_list else methods)[part.name] = (path, part.lineno)
                            for decorator in part.decorator_list:
                                self.assertEqual(decorator.id, "property", (path, part.lineno))
        for name, place in properties.items():
            self.assertNotIn(name, assigned, place)
            self.assertNotIn(name, methods, place)
            self.assertNotIn(name, METHODS, place)
        for name, place in assigned.items():
            self.assertNotIn(name, methods, place)
        known = [*assigned, *methods, *properties, *METHODS, "__name__"]
        for name, place in read.items():
            self.assertIn(name, known, place)


if __name__ == "__main__":
    unittest.main()
