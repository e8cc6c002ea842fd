"""The rules of LANGUAGE.md that can be seen in the text of the package's files."""

import ast
import builtins
import pathlib
import re
import unittest

PACKAGE = pathlib.Path(__file__).resolve().parent.parent / "fewreels"
BUILTINS = set("""len range enumerate zip min max sum abs sorted reversed int str bool bytes list tuple dict set frozenset
isinstance ord repr any all divmod Exception ValueError TypeError KeyError IndexError LookupError ZeroDivisionError
ArithmeticError OverflowError RuntimeError NotImplementedError AttributeError StopIteration""".split())
METHODS = set("""append clear copy count endswith extend find get index insert isalnum isalpha isdigit islower isspace
isupper items join keys ljust lower lstrip partition pop remove replace reverse rfind rjust rpartition rsplit rstrip
setdefault split splitlines startswith strip update upper values zfill bit_length title capitalize swapcase casefold
center expandtabs removeprefix removesuffix rindex isascii isdecimal isnumeric istitle isidentifier isprintable
translate sort add discard encode decode hex fromhex to_bytes from_bytes""".split())
BARRED_WORDS = """type typing typing_extensions enum Enum IntEnum StrEnum Flag IntFlag Generic Protocol ABC ABCMeta
namedtuple NamedTuple TypedDict TYPE_CHECKING abstractmethod""".split()
BARRED_NAMES = set("""register mro elements open input version_info with_traceback add_note attrgetter breakpoint builtins
compile copyright credits delattr dir eval exec exit gc getattr globals hasattr help id importlib license locals
methodcaller os quit setattr super type vars sys format format_map""".split())
BARRED_NODES = (ast.With, ast.Match, ast.Global, ast.Nonlocal, ast.Yield, ast.YieldFrom, ast.AsyncFunctionDef,
                ast.AsyncFor, ast.AsyncWith, ast.Await, ast.GeneratorExp, ast.NamedExpr, ast.Div, ast.MatMult)
DUNDERS = {"__init__", "__eq__", "__repr__", "__str__", "__len__"}


def files():
    return sorted(path for path in PACKAGE.rglob("*") if "__pycache__" not in path.parts and path.is_file())


def trees():
    for path in files():
        yield path, ast.parse(path.read_text(encoding="utf-8"))


def nodes(*kinds):
    for path, tree in trees():
        for node in ast.walk(tree):
            if isinstance(node, kinds):
                yield path.name, node


def bound_names(tree):
    """Names of variables, functions, classes, imports, parameters and caught errors."""
    for node in ast.walk(tree):
        if isinstance(node, (ast.FunctionDef, ast.ClassDef)):
            yield node.name
        elif isinstance(node, ast.Name) and isinstance(node.ctx, ast.Store):
            yield node.id
        elif isinstance(node, ast.arg):
            yield node.arg
        elif isinstance(node, ast.alias):
            yield node.asname or node.name
        elif isinstance(node, ast.ExceptHandler) and node.name:
            yield node.name


class Files(unittest.TestCase):
    def test_names(self):
        self.assertTrue((PACKAGE / "__init__.py").is_file())
        for path in files():
            self.assertRegex(path.name, r"^([a-z][a-z0-9_]*|__init__|__main__)\.py$")
            self.assertFalse(path.stem != "__init__" and hasattr(builtins, path.stem), path.name)

    def test_signs_and_sizes(self):
        for path in files():
            text = path.read_bytes().decode("utf-8")
            self.assertRegex(text, r"\A[\n -~]*\Z", path.name)
            self.assertLessEqual(len(text.splitlines()), 400, path.name)
            for line in text.splitlines():
                self.assertLessEqual(len(line), 120, path.name)

    def test_functions_are_short(self):
        for name, node in nodes(ast.FunctionDef):
            self.assertLessEqual(node.end_lineno - node.lineno + 1, 40, (name, node.name))

    def test_barred_words(self):
        for path in files():
            text = path.read_text(encoding="utf-8")
            for word in BARRED_WORDS:
                self.assertIsNone(re.search(rf"\b{word}\b", text), (path.name, word))
            for word in ("dataclass", "overload", "contextmanager"):
                self.assertNotIn(word, text, path.name)


class Statements(unittest.TestCase):
    def test_module_level(self):
        for path, tree in trees():
            for at, node in enumerate(tree.body):
                if at == 0 and ast.get_docstring(tree) is not None:
                    continue
                self.assertIsInstance(node, (ast.ImportFrom, ast.FunctionDef, ast.ClassDef, ast.Assign), path.name)
            bound = [node.name for node in tree.body if isinstance(node, (ast.FunctionDef, ast.ClassDef))]
            bound += [each.asname or each.name for node in tree.body if isinstance(node, ast.ImportFrom)
                      for each in node.names]
            bound += [node.targets[0].id for node in tree.body if isinstance(node, ast.Assign)]
            self.assertEqual(len(bound), len(set(bound)), path.name)

    def test_imports(self):
        self.assertEqual(list(nodes(ast.Import)), [])
        for name, node in nodes(ast.ImportFrom):
            self.assertEqual(node.level, 0, name)
            self.assertRegex(node.module, r"^fewreels\.[a-z0-9_]+$", name)
            defined = ast.parse((PACKAGE / (node.module.split(".")[1] + ".py")).read_text(encoding="utf-8"))
            names = [each.name for each in defined.body if isinstance(each, (ast.FunctionDef, ast.ClassDef))]
            names += [each.targets[0].id for each in defined.body if isinstance(each, ast.Assign)]
            for each in node.names:
                self.assertIn(each.name, names, name)

    def test_no_imports_in_a_ring(self):
        ahead = {}
        for path, tree in trees():
            ahead[path.stem] = {node.module.split(".")[1] for node in tree.body if isinstance(node, ast.ImportFrom)}
        while ahead:
            free = [name for name, needed in ahead.items() if not needed & set(ahead)]
            self.assertTrue(free, ahead)
            for name in free:
                del ahead[name]

    def test_no_barred_statement_or_expression(self):
        for name, node in nodes(*BARRED_NODES):
            self.fail((name, node.__class__.__name__, getattr(node, "lineno", None)))
        for name, node in nodes(ast.For, ast.While):
            self.assertEqual(node.orelse, [], name)
        for name, node in nodes(ast.Starred):
            self.assertIsInstance(node.ctx, ast.Store, name)
        for name, node in nodes(ast.Try):
            for handler in node.handlers:
                self.assertIsNotNone(handler.type, name)

    def test_parameters_are_plain(self):
        for name, node in nodes(ast.FunctionDef, ast.Lambda):
            self.assertIsNone(node.args.vararg, name)
            self.assertIsNone(node.args.kwarg, name)
            self.assertEqual(node.args.posonlyargs, [], name)
        for name, node in nodes(ast.FunctionDef, ast.ClassDef):
            self.assertEqual(node.decorator_list, [], name)

    def test_classes(self):
        for name, node in nodes(ast.ClassDef):
            self.assertLessEqual(len(node.bases), 1, name)
            for at, each in enumerate(node.body):
                if at == 0 and ast.get_docstring(node) is not None:
                    continue
                self.assertIsInstance(each, (ast.FunctionDef, ast.Pass), name)

    def test_tables_hold_functions_defined_above(self):
        for path, tree in trees():
            defined = set()
            for node in tree.body:
                if isinstance(node, ast.FunctionDef):
                    defined.add(node.name)
                elif isinstance(node, ast.Assign):
                    for each in ast.walk(node.value):
                        if isinstance(each, ast.Name):
                            self.assertIn(each.id, defined, path.name)
                        self.assertNotIsInstance(each, (ast.Call, ast.Set, ast.ListComp, ast.DictComp), path.name)

    def test_no_name_is_a_method_and_an_attribute(self):
        methods = {each.name for _, node in nodes(ast.ClassDef) for each in node.body if isinstance(each, ast.FunctionDef)}
        assigned = {node.attr for _, node in nodes(ast.Attribute) if isinstance(node.ctx, ast.Store)}
        self.assertEqual(methods & assigned, set())
        self.assertEqual(assigned & METHODS, set())

    def test_is_only_with_none_and_truths(self):
        for name, node in nodes(ast.Compare):
            for sign, right in zip(node.ops, node.comparators):
                if isinstance(sign, (ast.Is, ast.IsNot)):
                    self.assertIsInstance(right, ast.Constant, name)
                    self.assertTrue(right.value is None or right.value is True or right.value is False, name)


class Names(unittest.TestCase):
    def test_bound_names(self):
        for path, tree in trees():
            for name in bound_names(tree):
                if name in DUNDERS:
                    continue
                self.assertRegex(name, r"^[A-Za-z][A-Za-z0-9_]*$", path.name)
                self.assertNotIn(name, BARRED_NAMES, path.name)
                self.assertFalse(hasattr(builtins, name), (path.name, name))

    def test_no_local_has_the_name_of_an_import_or_a_class(self):
        for path, tree in trees():
            taken = {node.name for node in tree.body if isinstance(node, ast.ClassDef)}
            taken |= {each.asname or each.name for node in tree.body if isinstance(node, ast.ImportFrom)
                      for each in node.names}
            for node in tree.body:
                if isinstance(node, (ast.FunctionDef, ast.ClassDef)):
                    inside = set(bound_names(node)) - {node.name}
                    self.assertEqual(inside & taken, set(), path.name)

    def test_builtins(self):
        for path, tree in trees():
            known = set(bound_names(tree)) | BUILTINS
            for node in ast.walk(tree):
                if isinstance(node, ast.Name):
                    self.assertIn(node.id, known, path.name)

    def test_called_methods(self):
        own = {node.name for _, node in nodes(ast.FunctionDef)}
        for name, node in nodes(ast.Call):
            if isinstance(node.func, ast.Attribute):
                self.assertIn(node.func.attr, own | METHODS | DUNDERS, name)


class Values(unittest.TestCase):
    def test_strings(self):
        for name, node in nodes(ast.Constant):
            self.assertNotIsInstance(node.value, (float, complex), name)
            if isinstance(node.value, str):
                self.assertNotIn("%", node.value, name)

    def test_f_strings_have_no_format(self):
        for name, node in nodes(ast.FormattedValue):
            self.assertIsNone(node.format_spec, name)

    def test_powers_have_literal_exponents(self):
        for name, node in nodes(ast.BinOp):
            if isinstance(node.op, ast.Pow):
                self.assertIsInstance(node.right, ast.Constant, name)
                self.assertIn(node.right.value, range(65), name)


if __name__ == "__main__":
    unittest.main()
