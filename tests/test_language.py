"""What a test can see of LANGUAGE.md: the rules of form that the files of the package keep to."""

import ast
import builtins
import pathlib
import re
import unittest

FOLDER = pathlib.Path(__file__).resolve().parent.parent / "debtsheld"

LIBRARY = ("heapq", "math", "itertools", "collections")

# L8
BUILTINS = set("""len range enumerate zip min max sum abs sorted reversed int str bool bytes list tuple dict set frozenset
isinstance ord repr any all divmod pow getattr hasattr setattr iter next map type super property staticmethod classmethod
Exception ValueError TypeError KeyError IndexError LookupError ZeroDivisionError ArithmeticError OverflowError
RuntimeError NotImplementedError AttributeError StopIteration NotImplemented""".split())

# L25
METHODS = set("""append clear copy count endswith extend find get index insert isalnum isalpha isdigit islower isspace isupper
items join keys ljust lower lstrip partition pop remove replace reverse rfind rjust rpartition rsplit rstrip setdefault
split splitlines startswith strip update upper values zfill bit_length title capitalize swapcase casefold center
expandtabs removeprefix removesuffix rindex isascii isdecimal isnumeric istitle isidentifier isprintable add discard sort
appendleft popleft extendleft rotate format""".split())

# L17, for names of every sort
BARRED = set("""mro elements open input law version_info with_traceback add_note register attrgetter breakpoint builtins
compile copyright credits delattr dir eval exec exit gc globals help id importlib license locals methodcaller os quit
vars sys typing enum Enum Generic Protocol ABC namedtuple dataclass overload""".split())

FORBIDDEN_NODES = (
    ast.AsyncFor, ast.AsyncFunctionDef, ast.AsyncWith, ast.Await, ast.Import, ast.Div, ast.MatMult,
)


def files():
    return sorted(FOLDER.rglob("*.py"))


def trees():
    return [(path, ast.parse(path.read_text(encoding="utf-8"))) for path in files()]


def module_name(path):
    parts = path.relative_to(FOLDER.parent).with_suffix("").parts
    return ".".join(parts[:-1] if parts[-1] == "__init__" else parts)


def bound_at_the_top(tree):
    names = []
    for node in tree.body:
        if isinstance(node, ast.ImportFrom):
            names.extend(alias.asname or alias.name for alias in node.names)
        elif isinstance(node, (ast.FunctionDef, ast.ClassDef)):
            names.append(node.name)
        elif isinstance(node, ast.Assign):
            names.extend(target.id for target in node.targets)
    return names


def bound_inside(tree):
    """The names of parameters and of local variables."""
    names = []
    for function in ast.walk(tree):
        if isinstance(function, (ast.FunctionDef, ast.Lambda)):
            for node in ast.walk(function):
                if isinstance(node, ast.arg):
                    names.append(node.arg)
                elif isinstance(node, ast.Name) and isinstance(node.ctx, ast.Store):
                    names.append(node.id)
                elif isinstance(node, ast.ExceptHandler) and node.name:
                    names.append(node.name)
    return names


class LanguageTests(unittest.TestCase):

    def test_files(self):
        for path in FOLDER.rglob("*"):
            if "__pycache__" in path.parts:
                continue
            if path.is_dir():
                self.assertTrue((path / "__init__.py").exists(), path)
            else:
                self.assertRegex(path.name, r"\A([a-z][a-z0-9_]*|__init__|__main__)\.py\Z")
        self.assertLessEqual(len(files()), 100)
        self.assertTrue((FOLDER / "__init__.py").exists())

    def test_sizes_and_signs(self):
        for path in files():
            text = path.read_bytes().decode("ascii")
            lines = text.split("\n")
            self.assertLessEqual(len(lines), 399, path)
            for line in lines:
                self.assertLessEqual(len(line), 120, (path, line))
                self.assertTrue(all(" " <= sign <= "~" for sign in line), (path, line))
                self.assertEqual(line, line.rstrip(), (path, line))

    def test_sizes_of_functions(self):
        for path, tree in trees():
            for node in ast.walk(tree):
                if isinstance(node, ast.FunctionDef):
                    self.assertLessEqual(node.end_lineno - node.lineno + 1, 40, (path, node.name))

    def test_module_level(self):
        for path, tree in trees():
            for at, node in enumerate(tree.body):
                docstring = at == 0 and isinstance(node, ast.Expr) and isinstance(node.value, ast.Constant)
                plain = isinstance(node, ast.Assign) and len(node.targets) == 1 and isinstance(node.targets[0], ast.Name)
                plain = plain and not any(isinstance(part, (ast.Call, ast.ListComp, ast.Lambda, ast.Set))
                                          for part in ast.walk(node))
                allowed = isinstance(node, (ast.ImportFrom, ast.FunctionDef, ast.ClassDef))
                self.assertTrue(docstring or plain or allowed, (path, node.lineno))
            names = bound_at_the_top(tree)
            self.assertEqual(len(names), len(set(names)), path)

    def test_imports(self):
        defined = {module_name(path): tree for path, tree in trees()}
        needs = {}
        for path, tree in trees():
            needs[module_name(path)] = []
            for node in ast.walk(tree):
                if not isinstance(node, ast.ImportFrom):
                    continue
                self.assertEqual(node.level, 0, path)
                if node.module in LIBRARY:
                    continue
                self.assertIn(node.module, defined, path)
                needs[module_name(path)].append(node.module)
                own = [part.name for part in defined[node.module].body
                       if isinstance(part, (ast.FunctionDef, ast.ClassDef))]
                own.extend(part.targets[0].id for part in defined[node.module].body if isinstance(part, ast.Assign))
                for alias in node.names:
                    self.assertIn(alias.name, own, path)
        while needs:
            free = [name for name in needs if not [other for other in needs[name] if other in needs]]
            self.assertTrue(free, needs)
            needs = {name: needs[name] for name in needs if name not in free}

    def test_statements_and_values(self):
        for path, tree in trees():
            for node in ast.walk(tree):
                where = (path, getattr(node, "lineno", 0))
                self.assertNotIsInstance(node, FORBIDDEN_NODES, where)
                if isinstance(node, ast.Constant):
                    self.assertNotIsInstance(node.value, (float, complex), where)
                if isinstance(node, (ast.FunctionDef, ast.ClassDef)):
                    for decorator in node.decorator_list:
                        self.assertIn(ast.unparse(decorator).split(".")[-1],
                                      ("property", "setter", "staticmethod", "classmethod"), where)
                if isinstance(node, ast.ExceptHandler):
                    self.assertIsNotNone(node.type, where)
                    self.assertNotIn(ast.unparse(node.type), ("Exception", "TypeError", "RuntimeError", "()"), where)
                if isinstance(node, ast.Compare):
                    for sign, other in zip(node.ops, node.comparators):
                        if isinstance(sign, (ast.Is, ast.IsNot)):
                            self.assertIn(ast.unparse(other), ("None", "True", "False"), where)
                if isinstance(node, ast.Raise) and node.exc is not None:
                    self.assertIsInstance(node.exc, ast.Call, where)

    def test_no_text_has_the_sign_of_the_remainder(self):
        for path, tree in trees():
            docstrings = [node.body[0].value for node in ast.walk(tree)
                          if isinstance(node, (ast.Module, ast.FunctionDef, ast.ClassDef)) and node.body
                          and isinstance(node.body[0], ast.Expr)]
            for node in ast.walk(tree):
                if isinstance(node, ast.Constant) and isinstance(node.value, str) and node not in docstrings:
                    self.assertNotIn("%", node.value, path)

    def test_builtins(self):
        for path, tree in trees():
            known = set(bound_at_the_top(tree)) | set(bound_inside(tree))
            known |= {node.name for node in ast.walk(tree) if isinstance(node, ast.FunctionDef)}
            for node in ast.walk(tree):
                if isinstance(node, ast.Name) and isinstance(node.ctx, ast.Load) and node.id not in known:
                    self.assertIn(node.id, BUILTINS, (path, node.lineno))

    def test_names(self):
        for path, tree in trees():
            top, inside = bound_at_the_top(tree), bound_inside(tree)
            for name in top + inside:
                self.assertRegex(name, r"\A(_|_?[A-Za-z][A-Za-z0-9_]*)\Z", path)
                self.assertFalse(hasattr(builtins, name), (path, name))
                self.assertNotIn(name, BARRED, path)
            outer = [node.name for node in tree.body if isinstance(node, ast.ClassDef)]
            for node in tree.body:
                if isinstance(node, ast.ImportFrom):
                    outer.extend(alias.asname or alias.name for alias in node.names)
            self.assertEqual(set(outer) & set(inside), set(), path)
            for node in ast.walk(tree):
                if isinstance(node, ast.Name) and isinstance(node.ctx, ast.Load):
                    self.assertNotEqual(node.id, "_", (path, node.lineno))

    def test_methods(self):
        own = {function.name for _, tree in trees() for node in ast.walk(tree) if isinstance(node, ast.ClassDef)
               for function in node.body if isinstance(function, ast.FunctionDef)}
        for path, tree in trees():
            for node in ast.walk(tree):
                if isinstance(node, ast.Call) and isinstance(node.func, ast.Attribute):
                    self.assertIn(node.func.attr, METHODS | own, (path, node.lineno))
                    if node.func.attr not in own:
                        self.assertEqual([word.arg for word in node.keywords if word.arg not in ("key", "reverse")], [])

    def test_attributes_that_are_read_are_assigned(self):
        assigned = {node.attr for _, tree in trees() for node in ast.walk(tree)
                    if isinstance(node, ast.Attribute) and isinstance(node.ctx, ast.Store)}
        for path, tree in trees():
            called = [node.func for node in ast.walk(tree) if isinstance(node, ast.Call)]
            for node in ast.walk(tree):
                if isinstance(node, ast.Attribute) and node not in called and isinstance(node.ctx, ast.Load):
                    self.assertIn(node.attr, assigned, (path, node.lineno))

    def test_words_that_occur_nowhere(self):
        for path in files():
            text = path.read_text(encoding="utf-8")
            self.assertIsNone(re.search("_wall|_WallAttr|dataclass|overload|contextmanager", text), path)
            self.assertNotIn("\t", text, path)

    def test_sets_are_not_iterated(self):
        for path, tree in trees():
            for node in ast.walk(tree):
                if isinstance(node, (ast.For, ast.comprehension)):
                    self.assertNotIsInstance(node.iter, (ast.Set, ast.SetComp), path)
                    self.assertFalse(isinstance(node.iter, ast.Call) and ast.unparse(node.iter.func) == "set", path)


if __name__ == "__main__":
    unittest.main()
