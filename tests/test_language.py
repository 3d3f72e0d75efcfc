"""What can be seen at a glance of the language rules: that the files of the package keep to them."""

import ast
import builtins
import pathlib
import unittest

PACKAGE = pathlib.Path(__file__).parent.parent / "singlegates"
BUILT_IN = [name for name in dir(builtins) if not name.startswith("__")]
BUILTINS = set("""len range enumerate zip min max sum abs sorted reversed int str bool list tuple dict set isinstance ord
    repr any all divmod Exception ValueError TypeError KeyError IndexError LookupError ZeroDivisionError map iter next
    RuntimeError""".split())
METHODS = set("""append clear copy count endswith extend find get index insert isalnum isalpha isdigit islower isspace
    isupper items join keys ljust lower lstrip partition pop remove replace reverse rfind rjust rpartition rsplit rstrip
    setdefault split splitlines startswith strip update upper values zfill bit_length isascii add discard""".split())
STATEMENTS = (
    ast.Assign, ast.AugAssign, ast.If, ast.While, ast.For, ast.Return, ast.Break, ast.Continue, ast.Pass, ast.Raise,
    ast.Assert, ast.Delete, ast.Try, ast.Expr, ast.FunctionDef, ast.ClassDef, ast.ImportFrom,
)
BARRED = set("""mro elements open input law version_info with_traceback add_note register type typing enum Enum Flag
    Generic Protocol ABC namedtuple NamedTuple TypedDict abstractmethod eval exec exit dir vars globals locals id
    compile breakpoint help os gc super getattr setattr hasattr delattr""".split())


def sources():
    return {path.stem: path.read_text(encoding="utf-8") for path in sorted(PACKAGE.glob("*.py"))}


def trees():
    return {name: ast.parse(text) for name, text in sources().items()}


def nodes(kind):
    return [(name, node) for name, tree in trees().items() for node in ast.walk(tree) if isinstance(node, kind)]


def bound(tree):
    """The names that a module binds, each as often as it binds it."""
    found = []
    for node in tree.body:
        if isinstance(node, ast.ImportFrom):
            found.extend([told.name for told in node.names])
        elif isinstance(node, (ast.FunctionDef, ast.ClassDef)):
            found.append(node.name)
        elif isinstance(node, ast.Assign):
            found.extend([target.id for target in node.targets])
    return found


class Language(unittest.TestCase):
    def test_files(self):
        for path in PACKAGE.iterdir():
            if path.name != "__pycache__":
                self.assertRegex(path.name, r"^[a-z][a-z0-9_]*\.py$|^__init__\.py$|^__main__\.py$")
        self.assertIn("__init__", sources())

    def test_sizes_and_signs(self):
        for name, text in sources().items():
            lines = text.split("\n")
            self.assertLessEqual(len(lines), 399, name)
            for number, line in enumerate(lines, 1):
                self.assertLessEqual(len(line), 120, (name, number))
                self.assertTrue(all(" " <= sign <= "~" for sign in line), (name, number))
                self.assertEqual(line, line.rstrip(), (name, number))
        for name, node in nodes(ast.FunctionDef):
            self.assertLessEqual(node.end_lineno - node.lineno + 1, 40, (name, node.name))

    def test_imports(self):
        found = trees()
        needs = {}
        for name, tree in found.items():
            needs[name] = []
            for node in ast.walk(tree):
                self.assertNotIsInstance(node, ast.Import, name)
                if isinstance(node, ast.ImportFrom):
                    module = node.module.removeprefix("singlegates.")
                    self.assertEqual((node.module, node.level), ("singlegates." + module, 0), name)
                    own = [told.name for told in found[module].body if hasattr(told, "name")]
                    own += [target.id for told in found[module].body if isinstance(told, ast.Assign) for target in told.targets]
                    for told in node.names:
                        self.assertIsNone(told.asname)
                        self.assertIn(told.name, own, name)
                        self.assertFalse(told.name.startswith("_"), (name, told.name))
                    needs[name].append(module)
        while needs:
            free = [name for name in needs if not any(other in needs for other in needs[name])]
            self.assertTrue(free, f"these import one another: {needs}")
            needs = {name: others for name, others in needs.items() if name not in free}

    def test_module_level(self):
        for name, tree in trees().items():
            for node in tree.body:
                self.assertIsInstance(node, (ast.Expr, ast.ImportFrom, ast.FunctionDef, ast.ClassDef, ast.Assign), name)
                if isinstance(node, ast.Expr):
                    self.assertIsInstance(node.value, ast.Constant, name)
            self.assertEqual(len(bound(tree)), len(set(bound(tree))), name)
        for name, node in nodes(ast.stmt):
            self.assertIsInstance(node, STATEMENTS, (name, node.lineno))

    def test_names(self):
        for name, tree in trees().items():
            taken = set(bound(tree))
            for node in ast.walk(tree):
                if isinstance(node, (ast.FunctionDef, ast.ClassDef)):
                    self.assertFalse(node.name in BUILT_IN, (name, node.name))
                    self.assertNotIn(node.name, BARRED, name)
                if isinstance(node, ast.arg) or isinstance(node, ast.Name) and isinstance(node.ctx, ast.Store):
                    told = node.arg if isinstance(node, ast.arg) else node.id
                    self.assertFalse(told in BUILT_IN or told in BARRED, (name, node.lineno, told))
                    if node not in [target for top in tree.body if isinstance(top, ast.Assign) for target in top.targets]:
                        self.assertNotIn(told, taken, (name, node.lineno))

    def test_builtins_and_methods(self):
        own = {node.name for _, node in nodes(ast.FunctionDef)}
        for name, node in nodes(ast.Name):
            if node.id in BUILT_IN:
                self.assertIn(node.id, BUILTINS, (name, node.lineno))
        for name, node in nodes(ast.Call):
            if isinstance(node.func, ast.Attribute):
                self.assertIn(node.func.attr, METHODS | own, (name, node.lineno))

    def test_values(self):
        for name, node in nodes(ast.Constant):
            self.assertNotIsInstance(node.value, (float, complex, bytes), (name, node.lineno))
            if isinstance(node.value, str):
                self.assertNotIn("%", node.value, (name, node.lineno))
        for name, node in nodes((ast.Div, ast.Set, ast.Global, ast.With, ast.AsyncFunctionDef, ast.AnnAssign)):
            self.fail(f"{name}: {ast.dump(node)}")
        for name, node in nodes(ast.FunctionDef):
            self.assertEqual(node.decorator_list, [], name)

    def test_generators_are_lists_where_an_own_class_may_be_asked(self):
        for name, node in nodes(ast.Call):
            if isinstance(node.func, ast.Name) and node.func.id in ("any", "all", "min", "max", "sum", "sorted"):
                for argument in node.args:
                    self.assertNotIsInstance(argument, ast.GeneratorExp, (name, node.lineno))


if __name__ == "__main__":
    unittest.main()
