"""Those rules of the language for the package that can be seen in its files, under the numbers of the rules."""

import ast
import builtins
import pathlib
import re
import unittest

PACKAGE = pathlib.Path(__file__).resolve().parent.parent / "livehall"

BARRED = """type typing typing_extensions enum Enum IntEnum StrEnum Flag IntFlag Generic Protocol ABC ABCMeta
namedtuple NamedTuple TypedDict TYPE_CHECKING abstractmethod""".split()
BARRED_INSIDE = ["dataclass", "overload", "contextmanager"]

USED_BUILTINS = """len range enumerate zip min max sum abs sorted reversed int str bool list tuple dict set isinstance ord
repr any all divmod ValueError super""".split()
BUILTIN_METHODS = """append clear copy count endswith extend find get index insert isalnum isalpha isdigit islower isspace
isupper items join keys ljust lower lstrip partition pop remove replace reverse rfind rjust rpartition rsplit rstrip
setdefault split splitlines startswith strip update upper values zfill bit_length removeprefix removesuffix""".split()
DOUBLE_UNDERSCORES = ["__init__", "__eq__", "__str__", "__len__"]
STATEMENTS = (
    ast.FunctionDef, ast.ClassDef, ast.ImportFrom, ast.Assign, ast.AugAssign, ast.If, ast.While, ast.For, ast.Return,
    ast.Break, ast.Continue, ast.Raise, ast.Delete, ast.Try, ast.Expr,
)
NAMES_OF_VALUES = {word for value in ("", 0, [], {}, set(), b"") for word in dir(value)}
MADE_AT_ONCE = ("zip", "enumerate", "reversed", "range")


class FormTest(unittest.TestCase):
    def setUp(self):
        paths = sorted(PACKAGE.glob("**/*.py"))
        self.texts = {path.stem: path.read_text(encoding="utf-8") for path in paths}
        self.trees = {stem: ast.parse(text) for stem, text in self.texts.items()}

    def nodes(self, *classes):
        for stem, tree in self.trees.items():
            for node in ast.walk(tree):
                if isinstance(node, classes):
                    yield (stem, getattr(node, "lineno", 0)), node

    def methods(self):
        return {node.name for place, kind in self.nodes(ast.ClassDef) for node in kind.body
                if isinstance(node, ast.FunctionDef)}

    def attributes(self):
        return {node.attr for place, node in self.nodes(ast.Attribute) if isinstance(node.ctx, ast.Store)}


class Files(FormTest):
    def test_the_folder_holds_plain_files_only(self):
        names = [path.name for path in PACKAGE.iterdir() if path.name != "__pycache__"]
        self.assertIn("__init__.py", names)
        for name in names:
            self.assertRegex(name, r"\A[a-z0-9_]+\.py\Z")

    def test_sizes(self):
        for stem, text in self.texts.items():
            lines = text.splitlines()
            self.assertLessEqual(len(lines), 400, stem)
            self.assertLessEqual(max(map(len, lines)), 120, stem)
        for place, node in self.nodes(ast.FunctionDef):
            self.assertLessEqual(node.end_lineno - node.lineno + 1, 40, place)

    def test_characters(self):
        for stem, text in self.texts.items():
            self.assertRegex(text, r"\A[ -~\n]*\Z", stem)

    def test_barred_words(self):
        for stem, text in self.texts.items():
            words = re.findall(r"\w+", text)
            self.assertEqual([word for word in words if word in BARRED], [], stem)
            self.assertEqual([word for word in BARRED_INSIDE if word in text], [], stem)

    def test_strings(self):
        for place, node in self.nodes(ast.Constant):
            if isinstance(node.value, str):
                self.assertNotIn("%", node.value, place)
        for stem, text in self.texts.items():
            self.assertEqual(re.findall(r"\\[^nt\\'\"]", text), [], stem)


class Imports(FormTest):
    def test_from_the_file_that_defines_the_name(self):
        for place, node in self.nodes(ast.Import, ast.ImportFrom):
            self.assertIsInstance(node, ast.ImportFrom, place)
            self.assertEqual(node.level, 0, place)
            package, stem = node.module.split(".")
            self.assertEqual(package, "livehall", place)
            defined = [part.name for part in self.trees[stem].body if isinstance(part, (ast.FunctionDef, ast.ClassDef))]
            defined += [part.targets[0].id for part in self.trees[stem].body if isinstance(part, ast.Assign)]
            for name in node.names:
                self.assertIn(name.name, defined, place)
                self.assertIsNone(name.asname, place)

    def test_every_import_is_used(self):
        for stem, tree in self.trees.items():
            used = {node.id for node in ast.walk(tree) if isinstance(node, ast.Name)}
            for node in tree.body:
                if isinstance(node, ast.ImportFrom):
                    self.assertEqual([name.name for name in node.names if name.name not in used], [], stem)

    def test_no_two_files_import_from_each_other(self):
        before = {stem: {node.module.split(".")[1] for node in tree.body if isinstance(node, ast.ImportFrom)}
                  for stem, tree in self.trees.items()}
        while before:
            free = [stem for stem in before if not before[stem] & set(before)]
            self.assertNotEqual(free, [], before)
            for stem in free:
                del before[stem]


class Names(FormTest):
    def test_no_underscore_ahead(self):
        for place, node in self.nodes(ast.Name, ast.arg, ast.FunctionDef, ast.Attribute):
            name = getattr(node, "id", None) or getattr(node, "arg", None) or getattr(node, "name", None) or node.attr
            if name.startswith("_"):
                self.assertIn(name, DOUBLE_UNDERSCORES, place)

    def test_methods_and_attributes_share_no_name(self):
        self.assertEqual(self.methods() & self.attributes(), set())
        self.assertEqual(self.attributes() & NAMES_OF_VALUES, set())
        self.assertEqual((self.methods() & NAMES_OF_VALUES) - set(DOUBLE_UNDERSCORES), {"get"})

    def test_attributes_that_are_read_are_assigned(self):
        known = self.attributes() | self.methods() | set(BUILTIN_METHODS)
        for place, node in self.nodes(ast.Attribute):
            self.assertIn(node.attr, known, place)

    def test_bound_once_at_module_level(self):
        for stem, tree in self.trees.items():
            names = []
            for node in tree.body:
                if isinstance(node, ast.ImportFrom):
                    names += [name.name for name in node.names]
                elif isinstance(node, ast.Assign):
                    names += [target.id for target in node.targets]
                elif not isinstance(node, ast.Expr):
                    names.append(node.name)
            self.assertEqual(len(names), len(set(names)), stem)

    def test_locals_have_no_name_of_a_builtin_an_import_or_a_class(self):
        for stem, tree in self.trees.items():
            taken = set(dir(builtins))
            taken |= {name.name for node in tree.body if isinstance(node, ast.ImportFrom) for name in node.names}
            taken |= {node.name for node in tree.body if isinstance(node, (ast.ClassDef, ast.FunctionDef))}
            for function in ast.walk(tree):
                if isinstance(function, ast.FunctionDef):
                    names = {node.arg for node in ast.walk(function) if isinstance(node, ast.arg)}
                    names |= {node.id for node in ast.walk(function)
                              if isinstance(node, ast.Name) and isinstance(node.ctx, ast.Store)}
                    self.assertEqual(names & taken, set(), (stem, function.name))

    def test_builtins(self):
        for stem, tree in self.trees.items():
            for node in ast.walk(tree):
                if isinstance(node, ast.Name) and isinstance(node.ctx, ast.Load) and hasattr(builtins, node.id):
                    self.assertIn(node.id, USED_BUILTINS, (stem, node.lineno))


class Code(FormTest):
    def test_statements(self):
        for place, node in self.nodes(ast.stmt):
            self.assertIsInstance(node, STATEMENTS, place)

    def test_expressions_that_are_not_used(self):
        wrong = (ast.GeneratorExp, ast.Lambda, ast.NamedExpr, ast.Yield, ast.YieldFrom, ast.Await, ast.Div, ast.MatMult, ast.Mod)
        self.assertEqual([place for place, node in self.nodes(*wrong)], [])
        for place, node in self.nodes(ast.Constant):
            self.assertNotIsInstance(node.value, (float, bytes, complex), place)

    def test_is(self):
        for place, node in self.nodes(ast.Compare):
            for op, right in zip(node.ops, node.comparators):
                if isinstance(op, (ast.Is, ast.IsNot)):
                    self.assertIsInstance(right, ast.Constant, place)
                    self.assertIn(str(right.value), ["None", "True", "False"], place)

    def test_powers_are_written_out(self):
        for place, node in self.nodes(ast.BinOp):
            if isinstance(node.op, ast.Pow):
                self.assertLessEqual(node.right.value, 64, place)

    def test_methods_of_builtin_values(self):
        own = self.methods()
        for place, node in self.nodes(ast.Call):
            if isinstance(node.func, ast.Attribute):
                self.assertIn(node.func.attr, own | set(BUILTIN_METHODS), place)
                if node.func.attr in BUILTIN_METHODS:
                    self.assertEqual(node.keywords, [], place)

    def test_iterated_at_once(self):
        allowed = set()
        for place, node in self.nodes(ast.For, ast.comprehension):
            allowed.add(node.iter)
        for place, node in self.nodes(ast.Call):
            if isinstance(node.func, ast.Name) and node.func.id in ("list", "tuple", "dict", "sorted", "sum", "reversed"):
                allowed.add(node.args[0])
        for place, node in self.nodes(ast.Call):
            if isinstance(node.func, ast.Name) and node.func.id in MADE_AT_ONCE:
                self.assertIn(node, allowed, place)
            if isinstance(node.func, ast.Attribute) and node.func.attr in ("items", "keys", "values"):
                self.assertIn(node, allowed, place)

    def test_sets_stand_in_sorted_only(self):
        allowed = [node.args[0] for place, node in self.nodes(ast.Call)
                   if isinstance(node.func, ast.Name) and node.func.id == "sorted"]
        for place, node in self.nodes(ast.Set, ast.SetComp):
            self.assertIn(node, allowed, place)
        for place, node in self.nodes(ast.Call):
            self.assertNotEqual(getattr(node.func, "id", None), "set", place)

    def test_errors_are_created_where_they_are_raised(self):
        for place, node in self.nodes(ast.Raise):
            if node.exc is not None:
                self.assertIsInstance(node.exc, ast.Call, place)
                self.assertIsInstance(node.exc.func, ast.Name, place)
        for place, node in self.nodes(ast.ExceptHandler):
            self.assertEqual(node.type.id, "HallError", place)

    def test_double_underscore_methods_assign_nothing(self):
        for place, node in self.nodes(ast.FunctionDef):
            if node.name in ("__eq__", "__str__", "__len__"):
                for part in ast.walk(node):
                    self.assertNotIsInstance(part, (ast.Assign, ast.AugAssign, ast.For, ast.Delete), place)

    def test_module_level_tables_hold_no_lists_or_dicts(self):
        for stem, tree in self.trees.items():
            for node in tree.body:
                self.assertIsInstance(node, (ast.Expr, ast.ImportFrom, ast.Assign, ast.FunctionDef, ast.ClassDef))
                if isinstance(node, ast.Assign):
                    inner = [part for part in ast.walk(node.value) if part is not node.value]
                    self.assertEqual([part for part in inner if isinstance(part, (ast.List, ast.Dict))], [], stem)
                    defined = [part.name for part in tree.body if isinstance(part, ast.FunctionDef)]
                    for part in ast.walk(node.value):
                        if isinstance(part, ast.Name):
                            self.assertIn(part.id, defined, stem)

    def test_loops_do_not_change_what_they_iterate_over(self):
        for place, node in self.nodes(ast.For):
            if isinstance(node.iter, (ast.Name, ast.Attribute)):
                text = ast.unparse(node.iter)
                for row in node.body:
                    for part in ast.walk(row):
                        if isinstance(part, ast.Call) and isinstance(part.func, ast.Attribute):
                            if part.func.attr in ("append", "extend", "pop", "clear", "update", "insert", "remove"):
                                self.assertNotEqual(ast.unparse(part.func.value), text, place)
                        if isinstance(part, ast.Subscript) and not isinstance(part.ctx, ast.Load):
                            self.assertNotEqual(ast.unparse(part.value), text, place)


if __name__ == "__main__":
    unittest.main()
