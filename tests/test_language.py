"""The package keeps to the small part of Python that its rules (L1 to L28) tell, as far as a test can see it."""

import ast
import builtins
import pathlib
import re
import unittest

PACKAGE = pathlib.Path(__file__).resolve().parent.parent / "linepress"

ALLOWED_BUILTINS = set("""len range enumerate zip min max sum abs sorted reversed int str bool list tuple dict set
    frozenset isinstance ord repr any all divmod Exception ValueError TypeError KeyError IndexError LookupError
    ZeroDivisionError ArithmeticError OverflowError RuntimeError NotImplementedError StopIteration""".split())

ALLOWED_METHODS = set("""append clear copy count endswith extend find get index insert isalnum isalpha isdigit islower
    isspace isupper items join keys ljust lower lstrip partition pop remove replace reverse rfind rjust rpartition
    rsplit rstrip setdefault split splitlines startswith strip update upper values zfill bit_length""".split())

TAKEN_VALUES = set("items keys values pop update append clear extend insert remove reverse setdefault sort args "
                   "encode format".split())

UNUSED_NAMES = set("register mro elements open input version_info with_traceback add_note format format_map".split())

UNUSED_WORDS = set("""type typing typing_extensions enum Enum IntEnum StrEnum Flag IntFlag Generic Protocol ABC ABCMeta
    namedtuple NamedTuple TypedDict TYPE_CHECKING abstractmethod""".split())

WALKED = set("zip enumerate reversed range items keys values".split())

DUNDERS = {"__init__", "__eq__", "__repr__", "__str__", "__len__"}

NODES = tuple(getattr(ast, name) for name in """Module Expr Constant ImportFrom alias FunctionDef ClassDef arguments arg
    Assign AugAssign If While For Return Break Continue Pass Raise Try ExceptHandler Call Name Load Store Attribute
    Subscript Slice List Tuple Dict Set ListComp comprehension BinOp UnaryOp BoolOp Compare IfExp Lambda JoinedStr
    FormattedValue keyword Add Sub Mult FloorDiv Mod Pow BitAnd BitOr BitXor LShift RShift Invert USub UAdd Not And Or
    Eq NotEq Lt LtE Gt GtE Is IsNot In NotIn""".split())


def sources():
    return {path.stem: path.read_text(encoding="utf-8") for path in sorted(PACKAGE.glob("*.py"))}


def trees():
    return {name: ast.parse(text) for name, text in sources().items()}


def drawn_from(tree):
    return {node.module.split(".")[1] for node in tree.body if isinstance(node, ast.ImportFrom)}


class Files(unittest.TestCase):
    def test_nothing_but_plain_files(self):
        for path in PACKAGE.iterdir():
            if path.name != "__pycache__":
                self.assertRegex(path.name, r"^([a-z][a-z0-9_]*|__init__|__main__)\.py$")
                self.assertNotIn(path.stem, dir(builtins))
        self.assertTrue((PACKAGE / "__init__.py").is_file())

    def test_sizes_and_signs(self):
        for name, text in sources().items():
            lines = text.split("\n")
            self.assertLessEqual(len(lines), 401, name)
            self.assertLessEqual(max(len(line) for line in lines), 120, name)
            self.assertRegex(text, r"\A[ -~\n]*\Z", name)
            for node in ast.walk(ast.parse(text)):
                if isinstance(node, ast.FunctionDef):
                    self.assertLessEqual(node.end_lineno - node.lineno + 1, 40, (name, node.name))

    def test_words_that_stand_nowhere(self):
        for name, text in sources().items():
            self.assertEqual(set(re.findall(r"\w+", text)) & UNUSED_WORDS, set(), name)
            self.assertNotRegex(text, "dataclass|overload|contextmanager")

    def test_imports_are_the_packages_own_and_draw_no_ring(self):
        known = trees()
        for name, tree in known.items():
            for node in ast.walk(tree):
                if isinstance(node, ast.ImportFrom):
                    self.assertIn(node, tree.body)
                    self.assertEqual((node.level, node.module.split(".")[0]), (0, "linepress"))
                    defined = known[node.module.split(".")[1]].body
                    bound = {part.name for part in defined if isinstance(part, (ast.FunctionDef, ast.ClassDef))}
                    bound |= {part.targets[0].id for part in defined if isinstance(part, ast.Assign)}
                    for alias in node.names:
                        self.assertIn(alias.name, bound)
        left = {name: drawn_from(tree) for name, tree in known.items()}
        while left:
            free = [name for name in left if not left[name] & set(left)]
            self.assertTrue(free, left)
            left = {name: drawn for name, drawn in left.items() if name not in free}


class Code(unittest.TestCase):
    def each_node(self):
        for name, tree in trees().items():
            for node in ast.walk(tree):
                yield name, node

    def test_statements_and_expressions(self):
        for name, node in self.each_node():
            where = (name, getattr(node, "lineno", 0), node)
            self.assertIsInstance(node, NODES, where)
            if isinstance(node, (ast.For, ast.While)):
                self.assertEqual(node.orelse, [], where)
            if isinstance(node, ast.Assign):
                self.assertEqual(len(node.targets), 1, where)
            if isinstance(node, ast.Try):
                self.assertEqual(node.finalbody, [], where)
            if isinstance(node, ast.ListComp):
                self.assertEqual(len(node.generators), 1, where)
                self.assertLessEqual(len(node.generators[0].ifs), 1, where)
            if isinstance(node, ast.Constant):
                self.assertNotIsInstance(node.value, (float, bytes, complex), where)
                self.assertFalse(isinstance(node.value, str) and "%" in node.value, where)
            if isinstance(node, ast.Compare):
                for op, right in zip(node.ops, node.comparators):
                    if isinstance(op, (ast.Is, ast.IsNot)):
                        self.assertIn(getattr(right, "value", 0), (None, True, False), where)

    def test_an_expression_by_itself_is_a_call_or_a_modules_first_words(self):
        for name, tree in trees().items():
            for node in ast.walk(tree):
                if isinstance(node, ast.Expr) and node is not tree.body[0]:
                    self.assertIsInstance(node.value, ast.Call, (name, node.lineno))

    def test_functions_and_classes(self):
        for name, node in self.each_node():
            if isinstance(node, (ast.FunctionDef, ast.Lambda)):
                given = node.args
                self.assertEqual((given.vararg, given.kwarg, given.kwonlyargs, given.posonlyargs), (None, None, [], []))
            if isinstance(node, (ast.FunctionDef, ast.ClassDef)):
                self.assertEqual(node.decorator_list, [], (name, node.name))
            if isinstance(node, ast.ClassDef):
                self.assertLessEqual(len(node.bases), 1)
                self.assertEqual(node.keywords, [])
                for part in node.body:
                    self.assertIsInstance(part, (ast.FunctionDef, ast.Pass), (name, node.name))

    def test_errors_are_made_on_the_spot_and_taken_by_name(self):
        own = {part.name for part in trees()["errors"].body if isinstance(part, ast.ClassDef)}
        for name, node in self.each_node():
            if isinstance(node, ast.Raise):
                self.assertIsInstance(node.exc, ast.Call, (name, node.lineno))
                self.assertIn(node.exc.func.id, own, (name, node.lineno))
            if isinstance(node, ast.ExceptHandler):
                self.assertIsInstance(node.type, ast.Name, (name, node.lineno))
                self.assertIn(node.type.id, own, (name, node.lineno))

    def test_what_is_walked_at_once_is_not_kept(self):
        for name, tree in trees().items():
            kept = [node.value for node in ast.walk(tree) if isinstance(node, (ast.Assign, ast.Return))]
            for node in kept:
                if isinstance(node, ast.Call):
                    called = node.func.attr if isinstance(node.func, ast.Attribute) else node.func.id
                    self.assertNotIn(called, WALKED, (name, node.lineno))

    def test_names(self):
        for name, node in self.each_node():
            for word in names_of(node):
                where = (name, getattr(node, "lineno", 0), word)
                self.assertNotIn(word, UNUSED_NAMES, where)
                self.assertTrue(word in DUNDERS or re.match(r"[A-Za-z][A-Za-z0-9_]*\Z", word), where)
            if isinstance(node, ast.Name) and isinstance(node.ctx, ast.Load) and node.id in dir(builtins):
                self.assertIn(node.id, ALLOWED_BUILTINS, (name, node.lineno))
            if isinstance(node, ast.Name) and isinstance(node.ctx, ast.Store):
                self.assertNotIn(node.id, dir(builtins), (name, node.lineno))
            if isinstance(node, ast.arg):
                self.assertNotIn(node.arg, dir(builtins), (name, node.lineno))

    def test_no_local_is_called_like_a_class_or_an_import(self):
        for name, tree in trees().items():
            taken = {part.name for part in tree.body if isinstance(part, ast.ClassDef)}
            for part in tree.body:
                if isinstance(part, ast.ImportFrom):
                    taken |= {alias.name for alias in part.names}
            for node in ast.walk(tree):
                if isinstance(node, ast.Name) and isinstance(node.ctx, ast.Store):
                    self.assertNotIn(node.id, taken, (name, node.lineno))
                if isinstance(node, ast.arg):
                    self.assertNotIn(node.arg, taken, (name, node.lineno))

    def test_methods_and_values_of_objects(self):
        methods = set()
        values = set()
        for name, node in self.each_node():
            if isinstance(node, ast.ClassDef):
                own = [part.name for part in node.body if isinstance(part, ast.FunctionDef)]
                self.assertEqual(len(own), len(set(own)), (name, node.name))
                methods |= set(own)
            if isinstance(node, ast.Attribute) and isinstance(node.ctx, ast.Store):
                values.add(node.attr)
        self.assertEqual(methods & values, set())
        self.assertEqual(values & TAKEN_VALUES, set())
        for name, node in self.each_node():
            if isinstance(node, ast.Attribute):
                self.assertIn(node.attr, methods | values | ALLOWED_METHODS | DUNDERS, (name, node.lineno))


def names_of(node):
    if isinstance(node, ast.Name):
        return [node.id]
    if isinstance(node, ast.Attribute):
        return [node.attr]
    if isinstance(node, ast.arg):
        return [node.arg]
    if isinstance(node, (ast.FunctionDef, ast.ClassDef)):
        return [node.name]
    return []


if __name__ == "__main__":
    unittest.main()
