"""The rules of the program's language that can be seen in its files without much ado."""

import ast
import builtins
import re
import unittest
from pathlib import Path

PACKAGE = Path(__file__).resolve().parent.parent / "finalblocks"
FILES = sorted(path for path in PACKAGE.rglob("*.py"))

BUILTINS = {
    "len", "range", "enumerate", "zip", "min", "max", "sum", "abs", "sorted", "reversed", "int", "str", "bool", "list",
    "tuple", "dict", "set", "isinstance", "ord", "repr", "any", "all", "divmod", "iter", "next", "map", "property",
    "classmethod", "staticmethod", "ValueError", "KeyError", "ZeroDivisionError", "NotImplemented", "TypeError",
}
METHODS = set(
    "append clear copy count endswith extend find get index insert isalnum isalpha isdigit islower isspace isupper"
    " items join keys ljust lower lstrip partition pop remove replace reverse rfind rjust rpartition rsplit rstrip"
    " setdefault split splitlines startswith strip update upper values zfill bit_length title capitalize swapcase"
    " casefold center expandtabs removeprefix removesuffix rindex isascii isdecimal isnumeric istitle isidentifier"
    " isprintable add discard".split())
LIBRARY = {"math": {"gcd", "lcm", "isqrt", "comb", "perm", "factorial"},
           "itertools": {"product", "combinations", "permutations", "chain", "accumulate", "pairwise"},
           "collections": {"defaultdict"}}
STATEMENTS = (ast.Global, ast.AsyncFunctionDef, ast.AsyncFor, ast.AsyncWith, ast.Await, ast.TryStar, ast.Import)
DECORATORS = {"property", "classmethod", "staticmethod"}
DOUBLE = set(
    "init eq repr str len enter exit call iter lt le gt ge ne add sub mul floordiv mod pow and or xor lshift rshift"
    " radd rsub rmul neg pos invert abs bool contains getitem setitem".split())
BARRED = set(
    "register mro elements open input law type typing enum Enum Flag Generic Protocol ABC namedtuple NamedTuple"
    " TypedDict compile eval exec exit globals help id locals os quit super vars".split())
BARRED_PARTS = ["_wall", "dataclass", "overload", "contextmanager", "metaclass"]
BARRED_STARTS = (
    "_pe_", "_dcw_", "_enum_", "_cm_", "_twin_re_", "_lay_", "_law_", "_stub_", "_sre", "_cold", "_tuplegetter",
    "_outside", "_record", "_written_out", "_member_names")


class Files(unittest.TestCase):
    def test_the_folder_holds_plain_python_files_alone(self):
        for path in PACKAGE.rglob("*"):
            if "__pycache__" not in path.parts:
                self.assertTrue(path.is_dir() or path.suffix == ".py", path)
                self.assertRegex(path.stem, r"^[a-z_][a-z0-9_]*$")
        self.assertIn(PACKAGE / "__init__.py", FILES)

    def test_characters_and_sizes(self):
        for path in FILES:
            text = path.read_bytes().decode("ascii")
            self.assertTrue(all(sign == "\n" or " " <= sign <= "~" for sign in text), path)
            self.assertLessEqual(len(text.split("\n")), 400, path)
            for line in text.split("\n"):
                self.assertLessEqual(len(line), 120, (path, line))

    def test_words_that_stand_nowhere(self):
        for path in FILES:
            text = path.read_text(encoding="ascii")
            for word in BARRED_PARTS:
                self.assertNotIn(word, text, path)
            self.assertFalse(BARRED & set(re.findall(r"\w+", text)), path)
            for name in re.findall(r"\b_\w+", text):
                self.assertFalse(name.startswith(BARRED_STARTS), (path, name))


class Code(unittest.TestCase):
    def nodes(self, *kinds):
        for path in FILES:
            for node in ast.walk(ast.parse(path.read_text(encoding="ascii"))):
                if isinstance(node, kinds):
                    yield path, node

    def test_sizes_of_functions(self):
        for path, node in self.nodes(ast.FunctionDef):
            self.assertLessEqual(node.end_lineno - node.lineno + 1, 40, (path, node.name))

    def test_statements(self):
        for path, node in self.nodes(*STATEMENTS):
            self.fail((path, node.lineno))

    def test_imports(self):
        for path, node in self.nodes(ast.ImportFrom):
            self.assertEqual(node.level, 0, path)
            names = {alias.name for alias in node.names}
            self.assertFalse([alias for alias in node.names if alias.asname or alias.name == "*"], path)
            if node.module.startswith("finalblocks."):
                home = PACKAGE.parent.joinpath(*node.module.split(".")).with_suffix(".py")
                body = ast.parse(home.read_text(encoding="ascii")).body
                defined = {row.name for row in body if isinstance(row, (ast.FunctionDef, ast.ClassDef))}
                defined |= {row.targets[0].id for row in body if isinstance(row, ast.Assign)}
                self.assertLessEqual(names, defined, path)
            else:
                self.assertLessEqual(names, LIBRARY.get(node.module, set()), path)

    def test_no_variable_has_the_name_of_a_class_or_an_import(self):
        for path in FILES:
            nodes = list(ast.walk(ast.parse(path.read_text(encoding="ascii"))))
            taken = {alias.name for node in nodes if isinstance(node, ast.ImportFrom) for alias in node.names}
            taken |= {node.name for node in nodes if isinstance(node, ast.ClassDef)}
            names = {node.arg for node in nodes if isinstance(node, ast.arg)}
            names |= {node.id for node in nodes if isinstance(node, ast.Name) and isinstance(node.ctx, ast.Store)}
            self.assertFalse(taken & names, path)

    def test_builtins(self):
        for path, node in self.nodes(ast.Name):
            if hasattr(builtins, node.id):
                self.assertIn(node.id, BUILTINS, (path, node.lineno))
                self.assertIsInstance(node.ctx, ast.Load, (path, node.lineno))
        for path, node in self.nodes(ast.arg):
            self.assertFalse(hasattr(builtins, node.arg), (path, node.lineno))

    def test_methods_of_builtin_values(self):
        own = {node.name for _, node in self.nodes(ast.FunctionDef)}
        for path, node in self.nodes(ast.Call):
            if isinstance(node.func, ast.Attribute) and not node.func.attr.startswith("__"):
                self.assertIn(node.func.attr, METHODS | own, (path, node.lineno))

    def test_decorators_and_double_underscores(self):
        for path, node in self.nodes(ast.FunctionDef, ast.ClassDef):
            for row in node.decorator_list:
                known = row.id in DECORATORS if isinstance(row, ast.Name) else row.attr == "setter"
                self.assertTrue(known, (path, node.lineno))
            if node.name.startswith("__"):
                self.assertIn(node.name.strip("_"), DOUBLE, (path, node.lineno))

    def test_values(self):
        for path, node in self.nodes(ast.Constant):
            self.assertNotIsInstance(node.value, (float, complex), (path, node.lineno))
            if isinstance(node.value, str):
                self.assertNotIn("%", node.value, (path, node.lineno))
        for path, node in self.nodes(ast.BinOp, ast.AugAssign):
            self.assertNotIsInstance(node.op, (ast.Div, ast.MatMult), (path, node.lineno))

    def test_what_is_sorted_is_a_list_of_plain_strings_or_numbers(self):
        # Ratio has an order that also takes integers, which bars other uses.
        for path, node in self.nodes(ast.Call):
            if isinstance(node.func, ast.Name) and node.func.id == "sorted":
                told = node.args[0]
                self.assertIsInstance(told, ast.ListComp, (path, node.lineno))
                self.assertIn(told.elt.func.id, {"str", "int", "len", "ord", "repr"}, (path, node.lineno))

    def test_the_least_and_the_most_are_of_plain_numbers(self):
        for path, node in self.nodes(ast.Call):
            if isinstance(node.func, ast.Name) and node.func.id in ["min", "max"]:
                told = node.args[0]
                self.assertIsInstance(told, ast.ListComp, (path, node.lineno))
                self.assertIn(told.elt.func.id, {"int", "len", "ord"}, (path, node.lineno))

    def test_any_all_and_the_like_take_no_generator(self):
        for path, node in self.nodes(ast.GeneratorExp):
            self.fail((path, node.lineno))


if __name__ == "__main__":
    unittest.main()
