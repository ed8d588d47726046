"""That the package keeps to those rules of its language that can be read off its files one by one."""

import ast
import builtins
import pathlib
import unittest

FOLDER = pathlib.Path(__file__).resolve().parent.parent / "ownpartners"

BUILTINS = set("""len range enumerate zip min max sum abs sorted reversed int str bool list tuple dict set isinstance ord
repr any all divmod getattr hasattr setattr map iter next type super Exception ValueError TypeError KeyError IndexError
LookupError ZeroDivisionError ArithmeticError OverflowError RuntimeError NotImplementedError NotImplemented
property staticmethod classmethod""".split())

METHODS = set("""append clear copy count endswith extend find get index insert isalnum isalpha isdigit islower isspace
isupper items join keys ljust lower lstrip partition pop remove replace reverse rfind rjust rpartition rsplit rstrip
setdefault split splitlines startswith strip update upper values zfill bit_length add discard sort""".split())

BARRED = set("""register mro elements open input law version_info with_traceback add_note attrgetter breakpoint compile
copyright credits delattr dir eval exec exit gc globals help id importlib license locals methodcaller os quit vars
typing enum Enum Flag Generic Protocol ABC namedtuple NamedTuple TypedDict dataclass overload contextmanager""".split())

# What may be imported from elsewhere, to be called by its bare name alone.
LIBRARY = {"math": {"gcd", "lcm", "isqrt", "comb"}, "itertools": {"combinations"}}

STATEMENTS = (ast.Import, ast.Global, ast.AsyncFunctionDef, ast.AsyncFor, ast.AsyncWith, ast.AnnAssign, ast.Await)


def files():
    return sorted(FOLDER.glob("*.py"))


def trees():
    return {path.stem: ast.parse(path.read_text(encoding="ascii")) for path in files()}


def bound_names(tree):
    """The names that a file binds at module level, but for those of imports."""
    found = []
    for node in tree.body:
        if isinstance(node, (ast.FunctionDef, ast.ClassDef)):
            found.append(node.name)
        elif isinstance(node, ast.Assign):
            found.extend(target.id for target in node.targets)
    return found


def imports(tree):
    """The pairs (module, names) of the imports of a file."""
    return [(node.module, [alias.name for alias in node.names]) for node in tree.body
            if isinstance(node, ast.ImportFrom)]


def local_names(tree):
    """The names of the parameters and of what is assigned, with the names of functions and classes."""
    for node in ast.walk(tree):
        if isinstance(node, ast.arg):
            yield node.arg
        elif isinstance(node, ast.Name) and isinstance(node.ctx, ast.Store):
            yield node.id
        elif isinstance(node, (ast.FunctionDef, ast.ClassDef)):
            yield node.name


class Language(unittest.TestCase):
    def test_the_folder_holds_plain_files_alone(self):
        for path in FOLDER.iterdir():
            if path.name != "__pycache__":
                self.assertRegex(path.name, r"^(__init__|[a-z][a-z0-9_]*)\.py$")
        self.assertIn(FOLDER / "__init__.py", files())

    def test_signs_and_sizes(self):
        for path in files():
            text = path.read_text(encoding="ascii")
            self.assertTrue(all(sign == "\n" or " " <= sign <= "~" for sign in text), path.name)
            lines = text.split("\n")
            self.assertLess(len(lines), 400, path.name)
            self.assertLessEqual(max(map(len, lines)), 120, path.name)
        for name, tree in trees().items():
            for node in ast.walk(tree):
                if isinstance(node, ast.FunctionDef):
                    self.assertLessEqual(node.end_lineno - node.lineno + 1, 40, f"{name}.{node.name}")

    def test_module_level(self):
        for name, tree in trees().items():
            for k, node in enumerate(tree.body):
                with self.subTest(file=name, line=node.lineno):
                    if isinstance(node, ast.Expr):
                        self.assertTrue(k == 0 and isinstance(node.value.value, str))
                    elif isinstance(node, ast.Assign):
                        self.assertEqual(len(node.targets), 1)
                        ast.literal_eval(node.value)
                    else:
                        self.assertIsInstance(node, (ast.ImportFrom, ast.FunctionDef, ast.ClassDef))

    def test_imports_name_the_file_that_defines_and_go_round_in_no_circle(self):
        defined = {name: bound_names(tree) for name, tree in trees().items()}
        needs = {}
        for name, tree in trees().items():
            for module, names in imports(tree):
                if module in LIBRARY:
                    self.assertLessEqual(set(names), LIBRARY[module], name)
                    continue
                package, _, file = module.partition(".")
                self.assertEqual(package, "ownpartners", name)
                self.assertLessEqual(set(names), set(defined[file]), name)
                needs.setdefault(name, set()).add(file)
            every = bound_names(tree) + [one for _, names in imports(tree) for one in names]
            self.assertEqual(len(every), len(set(every)), name)
        left = set(defined)
        while left:
            free = {name for name in left if not needs.get(name, set()) & left}
            self.assertTrue(free, left)
            left -= free

    def test_what_is_imported_from_elsewhere_is_called_alone(self):
        for name, tree in trees().items():
            words = {word for module, names in imports(tree) if module in LIBRARY for word in names}
            called = {id(node.func) for node in ast.walk(tree) if isinstance(node, ast.Call) and not node.keywords}
            for node in ast.walk(tree):
                if isinstance(node, ast.Name) and node.id in words:
                    self.assertIn(id(node), called, f"{name}, line {node.lineno}")

    def test_statements_and_expressions(self):
        for name, tree in trees().items():
            for node in ast.walk(tree):
                with self.subTest(file=name, line=getattr(node, "lineno", 0)):
                    self.assertNotIsInstance(node, STATEMENTS)
                    self.assertFalse(getattr(node, "returns", None) or getattr(node, "annotation", None))
                    self.assertFalse(isinstance(node, ast.Constant) and isinstance(node.value, (float, complex)))
                    self.assertNotIsInstance(node, (ast.Div, ast.MatMult))
                    if isinstance(node, ast.alias):
                        self.assertIsNone(node.asname)
                    if isinstance(node, ast.Pow):
                        self.fail("an exponent wants a look at L27")
                    if isinstance(node, ast.Compare) and isinstance(node.ops[0], (ast.Is, ast.IsNot)):
                        self.assertIn(node.comparators[0].value, (None, True, False))
                    if isinstance(node, ast.Raise) and node.exc is not None:
                        self.assertIsInstance(node.exc, ast.Call)

    def test_names(self):
        for name, tree in trees().items():
            imported = {one for _, names in imports(tree) for one in names}
            for word in local_names(tree):
                if word == "__init__":
                    continue
                with self.subTest(file=name, word=word):
                    self.assertNotIn(word, BARRED)
                    self.assertFalse(hasattr(builtins, word))
                    self.assertFalse(word.startswith("__"))
                    self.assertNotIn(word, imported)

    def test_builtins_and_methods(self):
        own = {node.attr for tree in trees().values() for node in ast.walk(tree)
               if isinstance(node, ast.Attribute) and isinstance(node.ctx, ast.Store)}
        own |= {node.name for tree in trees().values() for node in ast.walk(tree) if isinstance(node, ast.FunctionDef)}
        for name, tree in trees().items():
            for node in ast.walk(tree):
                with self.subTest(file=name, line=getattr(node, "lineno", 0)):
                    if isinstance(node, ast.Name) and hasattr(builtins, node.id):
                        self.assertIn(node.id, BUILTINS)
                    if isinstance(node, ast.Attribute):
                        self.assertIn(node.attr, METHODS | own)


if __name__ == "__main__":
    unittest.main()
