"""The rules of the language for the files of the package, as far as a short program can look at them."""

import ast
import builtins
import pathlib
import re
import unittest

ROOT = pathlib.Path(__file__).resolve().parent.parent
PACKAGE = ROOT / "halflink"
FILES = sorted(path for path in PACKAGE.rglob("*") if path.is_file() and "__pycache__" not in path.parts)

LIBRARY = {
    "heapq": {"heappush", "heappop", "heapify", "heapreplace", "heappushpop"},
    "math": {"gcd", "lcm", "isqrt", "comb", "perm", "factorial"},
    "itertools": {"product", "combinations", "permutations", "chain", "accumulate", "pairwise", "islice",
                  "zip_longest"},
    "collections": {"defaultdict", "deque"},
    "__future__": {"annotations"},
}

BUILTINS = set(
    "len range enumerate zip min max sum abs sorted reversed int str bool bytes list tuple dict set frozenset "
    "isinstance ord repr any all divmod pow iter next map getattr hasattr setattr type super property staticmethod "
    "classmethod Exception ValueError TypeError KeyError IndexError LookupError ZeroDivisionError ArithmeticError "
    "OverflowError RuntimeError NotImplementedError AttributeError StopIteration NotImplemented object".split()
)

METHODS = set(
    "append clear copy count endswith extend find get index insert isalnum isalpha isdigit islower isspace isupper "
    "items join keys ljust lower lstrip partition pop remove replace reverse rfind rjust rpartition rsplit rstrip "
    "setdefault split splitlines startswith strip update upper values zfill bit_length isascii title capitalize "
    "swapcase casefold center expandtabs removeprefix removesuffix rindex isdecimal isnumeric istitle isidentifier "
    "isprintable translate add discard popleft".split()
)

UNUSED = set("register mro elements open input law version_info with_traceback add_note".split())

SPECIAL = re.compile("__(init|eq|repr|str|len|enter|exit|call|iter|lt|le|gt|ge|ne|r?add|r?sub|r?mul|r?floordiv|r?mod"
                     "|pow|r?and|r?or|r?xor|neg|pos|invert|abs|bool|contains|getitem|setitem)__$")


def trees():
    return [(path, ast.parse(path.read_text(encoding="utf-8"))) for path in FILES]


def module_of(path):
    return ".".join(path.relative_to(ROOT).with_suffix("").parts)


def defined(tree):
    """The names that a file binds at module level itself."""
    found = {part.name for part in tree.body if isinstance(part, (ast.FunctionDef, ast.ClassDef))}
    return found | {target.id for part in tree.body if isinstance(part, ast.Assign) for target in part.targets}


class Language(unittest.TestCase):
    def test_files(self):
        self.assertTrue(FILES)
        for path in FILES:
            self.assertRegex(path.name, r"^(__init__|[a-z][a-z0-9_]*)\.py$")
            self.assertTrue((path.parent / "__init__.py").exists(), path)
            self.assertFalse(path.with_suffix("").exists() and path.with_suffix("").is_dir(), path)
        self.assertLessEqual(len(FILES), 100)

    def test_characters_and_sizes(self):
        for path in FILES:
            text = path.read_bytes().decode("ascii")
            self.assertTrue(all(sign == "\n" or " " <= sign <= "~" for sign in text), path)
            lines = text.splitlines()
            self.assertLessEqual(len(lines), 399, path)
            self.assertLessEqual(max(map(len, lines)), 120, path)
        for path, tree in trees():
            for part in ast.walk(tree):
                if isinstance(part, ast.FunctionDef):
                    self.assertLessEqual(part.end_lineno - part.lineno + 1, 40, f"{path} {part.name}")

    def test_module_level(self):
        kinds = (ast.FunctionDef, ast.ClassDef, ast.ImportFrom, ast.Assign)
        for path, tree in trees():
            for at, part in enumerate(tree.body):
                docstring = at == 0 and isinstance(part, ast.Expr) and isinstance(part.value, ast.Constant)
                self.assertTrue(docstring or isinstance(part, kinds), f"{path} {part.lineno}")
            names = [name for part in tree.body for name in (
                [alias.name for alias in part.names] if isinstance(part, ast.ImportFrom)
                else [target.id for target in part.targets] if isinstance(part, ast.Assign)
                else [part.name] if isinstance(part, (ast.FunctionDef, ast.ClassDef)) else [])]
            self.assertEqual(len(names), len(set(names)), path)

    def test_imports(self):
        found = {module_of(path): (defined(tree), tree) for path, tree in trees()}
        needs = {name: set() for name in found}
        for name, (_, tree) in found.items():
            self.assertFalse([part for part in ast.walk(tree) if isinstance(part, ast.Import)], name)
            for part in ast.walk(tree):
                if isinstance(part, ast.ImportFrom):
                    self.assertEqual(part.level, 0)
                    self.assertFalse([alias for alias in part.names if alias.asname])
                    words = {alias.name for alias in part.names}
                    self.assertLessEqual(words, LIBRARY.get(part.module) or found[part.module][0], name)
                    self.assertIn(part, tree.body)
                    needs[name].add(part.module)
        for _ in found:
            needs = {name: more | {far for near in more for far in needs.get(near, ())} for name, more in needs.items()}
        self.assertFalse([name for name, more in needs.items() if name in more])

    def test_names(self):
        for path, tree in trees():
            fixed = {alias.name for part in tree.body if isinstance(part, ast.ImportFrom) for alias in part.names}
            fixed |= {part.name for part in tree.body if isinstance(part, ast.ClassDef)}
            for part in ast.walk(tree):
                where = f"{path} {getattr(part, 'lineno', 0)}"
                bound = part.arg if isinstance(part, ast.arg) else None
                if isinstance(part, ast.Name) and isinstance(part.ctx, ast.Store):
                    bound = part.id
                if bound is not None:
                    self.assertNotIn(bound, fixed, where)
                    self.assertFalse(hasattr(builtins, bound), where)
                if isinstance(part, ast.Name):
                    self.assertNotIn(part.id, UNUSED, where)
                    if isinstance(part.ctx, ast.Load) and hasattr(builtins, part.id):
                        self.assertIn(part.id, BUILTINS, where)
                if isinstance(part, ast.Name) and isinstance(part.ctx, ast.Load):
                    self.assertNotEqual(part.id, "_", where)
                if isinstance(part, (ast.FunctionDef, ast.ClassDef)):
                    fits = SPECIAL.match(part.name) if part.name.startswith("__") else not hasattr(builtins, part.name)
                    self.assertTrue(fits, where)

    def test_statements_and_expressions(self):
        refused = (ast.AsyncFunctionDef, ast.Await, ast.AsyncFor, ast.AsyncWith, ast.Div, ast.MatMult, ast.Global)
        for path, tree in trees():
            for part in ast.walk(tree):
                where = f"{path} {getattr(part, 'lineno', 0)}"
                self.assertNotIsInstance(part, refused, where)
                if isinstance(part, ast.Constant):
                    self.assertNotIsInstance(part.value, (float, complex), where)
                    if isinstance(part.value, str):
                        self.assertNotIn("%", part.value, where)
                if isinstance(part, ast.Compare) and any(isinstance(op, (ast.Is, ast.IsNot)) for op in part.ops):
                    if isinstance(part.left, ast.Call) and ast.unparse(part.left.func) == "type":
                        self.assertIn(ast.unparse(part.comparators[0]), ("int", "str", "bool", "list", "tuple", "dict"))
                        continue
                    self.assertIn(repr(getattr(part.comparators[0], "value", 0)), ("None", "True", "False"), where)
                if isinstance(part, ast.ExceptHandler):
                    self.assertIsNotNone(part.type, where)
                if isinstance(part, ast.Raise) and part.exc is not None:
                    self.assertIsInstance(part.exc, ast.Call, where)
                if isinstance(part, (ast.For, ast.comprehension)):
                    self.assertNotIsInstance(part.iter, (ast.Set, ast.SetComp), where)

    def test_lambdas(self):
        # Two with parameters of the same names do not stand on one line.
        for path, tree in trees():
            seen = set()
            for part in ast.walk(tree):
                if isinstance(part, ast.Lambda):
                    key = (part.lineno, tuple(given.arg for given in part.args.args))
                    self.assertNotIn(key, seen, f"{path} {part.lineno}")
                    seen.add(key)

    def test_double_underscore_methods(self):
        def written(value):
            if isinstance(value, ast.Call) and isinstance(value.func, ast.Attribute) and value.func.attr == "join":
                return isinstance(value.func.value, ast.Constant)
            if isinstance(value, ast.Call) and isinstance(value.func, ast.Name):
                return value.func.id in ("str", "repr")
            return isinstance(value, ast.JoinedStr) or isinstance(value, ast.Constant) and isinstance(value.value, str)

        def counted(value):
            if isinstance(value, ast.Call) and isinstance(value.func, ast.Name):
                return value.func.id == "len"
            return isinstance(value, ast.Constant) and type(value.value) is int

        for path, tree in trees():
            for part in ast.walk(tree):
                if not isinstance(part, ast.FunctionDef) or part.name not in ("__init__", "__str__", "__len__"):
                    continue
                where = f"{path} {part.lineno}"
                inside = list(ast.walk(part))
                returns = [found for found in inside if isinstance(found, ast.Return)]
                if part.name == "__init__":
                    # Nothing is returned, not by a function inside it either.
                    self.assertFalse(returns + [found for found in inside if isinstance(found, ast.Lambda)], where)
                else:
                    fits = written if part.name == "__str__" else counted
                    self.assertIs(part.body[-1], returns[-1], where)
                    self.assertTrue(all(fits(found.value) for found in returns), where)

    def test_names_of_attributes(self):
        # A method or a property does not have the name of an attribute that some class stores.
        stored, methods, generators = set(), set(), set()
        functions = []
        for _, tree in trees():
            for part in ast.walk(tree):
                if isinstance(part, ast.Attribute) and isinstance(part.ctx, ast.Store):
                    stored.add(part.attr)
                if isinstance(part, ast.ClassDef):
                    methods |= {found.name for found in part.body if isinstance(found, ast.FunctionDef)}
                if isinstance(part, ast.FunctionDef):
                    functions.append(part.name)
                    inside = ast.walk(part)
                    if any(isinstance(found, (ast.Yield, ast.YieldFrom)) for found in inside):
                        generators.add(part.name)
        self.assertFalse(stored & methods - {"done_moves", "capacity", "most"})
        # No other function has the name of a generator.
        self.assertFalse([name for name in generators if functions.count(name) > 1])

    def test_stars(self):
        # Behind a star in a call stand names, attributes off a name, and literals.
        for path, tree in trees():
            for part in ast.walk(tree):
                for given in getattr(part, "args", []) if isinstance(part, ast.Call) else []:
                    if isinstance(given, ast.Starred):
                        value = given.value.value if isinstance(given.value, ast.Attribute) else given.value
                        self.assertIsInstance(value, ast.Name, f"{path} {part.lineno}")

    def test_calls(self):
        own = {part.name for _, tree in trees() for part in ast.walk(tree) if isinstance(part, ast.FunctionDef)}
        for path, tree in trees():
            for part in ast.walk(tree):
                if not isinstance(part, ast.Call):
                    continue
                where = f"{path} {part.lineno}"
                if isinstance(part.func, ast.Attribute):
                    self.assertIn(part.func.attr, METHODS | own, where)
                if isinstance(part.func, ast.Name) and part.func.id in ("any", "all", "sum", "min", "max", "sorted"):
                    self.assertFalse([given for given in part.args if isinstance(given, ast.GeneratorExp)], where)
                if isinstance(part.func, ast.Name) and hasattr(builtins, part.func.id):
                    words = {word.arg for word in part.keywords}
                    self.assertLessEqual(words, {"key", "reverse", "default", "start", "strict"}, where)


if __name__ == "__main__":
    unittest.main()
