"""Some rules of the language that the package is written in, as far as a short test can see them."""

import ast
import builtins
import pathlib
import re
import unittest

from echobound import errors

PACKAGE = pathlib.Path(__file__).resolve().parent.parent / "echobound"
BARRED_WORDS = ("type", "typing", "typing_extensions", "enum", "Enum", "IntEnum", "StrEnum", "Flag", "IntFlag",
                "Generic", "Protocol", "ABC", "ABCMeta", "namedtuple", "NamedTuple", "TypedDict", "TYPE_CHECKING",
                "abstractmethod")
BARRED_PARTS = ("dataclass", "overload", "contextmanager")
BUILTINS = ("len", "range", "enumerate", "zip", "min", "max", "sum", "abs", "sorted", "reversed", "int", "str", "bool",
            "list", "tuple", "dict", "set", "isinstance", "ord", "repr", "any", "all", "divmod", "super",
            "ArithmeticError", "ValueError", "KeyError", "IndexError", "LookupError", "ZeroDivisionError", "TypeError",
            "NotImplemented")
INTERFACE = {
    "fractions.py": ("is_whole", "is_fraction", "fraction", "plus", "minus", "times", "divided", "size_of", "two_to",
                     "under"),
    "rounding.py": ("rounded",),
    "forms.py": ("Form",),
    "matrices.py": ("is_matrix", "shape", "unit", "mirrored", "sum_of", "product", "scaled", "led", "solved", "signs"),
    "series.py": ("product_of", "response", "answered", "parted"),
    "ladder.py": ("ladder", "raised"),
    "stillness.py": ("weighed", "stillness", "is_paper", "energy", "halving", "worth"),
    "nets.py": ("Net",),
    "machines.py": ("turned", "overs", "run", "Machine"),
    "twins.py": ("exact_run", "slack_of", "drift", "errors_of", "matrices_of", "transfer", "gain"),
    "builds.py": ("direct", "transposed", "rungs", "chain", "beside", "freed"),
    "spelling.py": ("spelled", "without_times"),
    "reach.py": ("Reach", "is_closed"),
    "boxes.py": ("box", "is_box", "may_over"),
    "rings.py": ("Rings",),
    "falling.py": ("AllRings",),
    "meets.py": ("meet", "is_meeting"),
    "classes.py": ("Least",),
    "taps.py": ("extremes", "guard"),
    "choices.py": ("fitted", "nearest_still"),
    "shifts.py": ("chosen", "best_order"),
    "texts.py": ("show_fraction", "show_way", "show_form", "show_net", "read_fraction", "read_way", "read_form",
                 "read_net"),
    "desk.py": ("Desk",),
}

BUILTIN_METHODS = ("append clear copy count endswith extend find get index insert isalnum isalpha isdigit "
                   "islower isspace isupper items join keys ljust lower lstrip partition pop remove replace "
                   "reverse rfind rjust rpartition rsplit rstrip setdefault split splitlines startswith strip update "
                   "upper values zfill bit_length removeprefix removesuffix").split()
BARRED_ATTRIBUTES = ("items keys values pop update append clear extend insert remove reverse setdefault sort args "
                     "encode decode hex fromhex format mro register elements open input law").split()


def sources():
    return [(path, path.read_text(encoding="utf-8")) for path in sorted(PACKAGE.glob("*.py"))]


def nodes_of(kinds):
    return [(path.name, node) for path, text in sources() for node in ast.walk(ast.parse(text))
            if isinstance(node, kinds)]


class LanguageTest(unittest.TestCase):
    def test_files(self):
        found = [path for path in PACKAGE.iterdir() if path.name != "__pycache__"]
        self.assertIn(PACKAGE / "__init__.py", found)
        for path in found:
            self.assertRegex(path.name, r"\A[a-z0-9_]+\.py\Z")

    def test_characters_and_sizes(self):
        for path, text in sources():
            self.assertRegex(text, r"\A[ -~\n]*\Z", path.name)
            lines = text.split("\n")
            self.assertLess(len(lines), 400, path.name)
            self.assertLessEqual(max(map(len, lines)), 120, path.name)

    def test_functions_are_short(self):
        for name, node in nodes_of(ast.FunctionDef):
            self.assertLessEqual(node.end_lineno - node.lineno + 1, 40, (name, node.name))

    def test_barred_words(self):
        for path, text in sources():
            words = re.findall(r"[A-Za-z0-9_]+", text)
            self.assertEqual([word for word in words if word in BARRED_WORDS], [], path.name)
            self.assertEqual([part for part in BARRED_PARTS if part in text], [], path.name)

    def test_imports_are_the_package_s_own(self):
        self.assertEqual(nodes_of(ast.Import), [])
        for name, node in nodes_of(ast.ImportFrom):
            self.assertTrue(node.level == 0 and node.module.startswith("echobound."), (name, node.lineno))

    def test_no_numbers_with_a_point(self):
        self.assertEqual(nodes_of(ast.Div), [])
        for name, node in nodes_of(ast.Constant):
            self.assertNotIsInstance(node.value, (float, complex), (name, node.lineno))

    def test_powers_have_a_literal_exponent(self):
        for name, node in nodes_of(ast.BinOp):
            if isinstance(node.op, ast.Pow):
                self.assertIsInstance(node.right, ast.Constant, (name, node.lineno))

    def test_the_interface_is_defined_where_it_is_listed(self):
        for name, wanted in INTERFACE.items():
            tree = ast.parse((PACKAGE / name).read_text(encoding="utf-8"))
            defined = [node.name for node in tree.body if isinstance(node, (ast.FunctionDef, ast.ClassDef))]
            self.assertEqual([one for one in wanted if defined.count(one) != 1], [], name)

    def test_names_are_plain_and_no_builtin_s(self):
        for name, node in nodes_of((ast.Name, ast.arg, ast.FunctionDef)):
            word = getattr(node, "id", None) or getattr(node, "arg", None) or getattr(node, "name", None)
            own = not isinstance(node, ast.Name) or isinstance(node.ctx, ast.Store)
            if own and not (isinstance(node, ast.FunctionDef) and word.startswith("__")):
                self.assertFalse(word.startswith("_"), (name, node.lineno))
                self.assertFalse(hasattr(builtins, word), (name, node.lineno, word))

    def test_no_local_name_is_an_import_s(self):
        for path, text in sources():
            tree = ast.parse(text)
            imported = {one.asname or one.name for node in ast.walk(tree) if isinstance(node, ast.ImportFrom)
                        for one in node.names}
            stored = {node.id for node in ast.walk(tree)
                      if isinstance(node, ast.Name) and isinstance(node.ctx, ast.Store)}
            given = {node.arg for node in ast.walk(tree) if isinstance(node, ast.arg)}
            self.assertEqual(imported & (stored | given), set(), path.name)

    def test_no_name_is_a_method_and_an_attribute(self):
        methods = {one.name for _, node in nodes_of(ast.ClassDef) for one in node.body
                   if isinstance(one, ast.FunctionDef)}
        stored = {node.attr for _, node in nodes_of(ast.Attribute) if isinstance(node.ctx, ast.Store)}
        self.assertEqual(methods & stored, set())

    def test_no_two_files_import_from_each_other(self):
        reached = {path.stem: {node.module.split(".")[1] for node in ast.walk(ast.parse(text))
                               if isinstance(node, ast.ImportFrom)} for path, text in sources()}
        for _ in reached:
            reached = {one: others | {far for other in others for far in reached[other]}
                       for one, others in reached.items()}
        self.assertEqual([one for one, others in reached.items() if one in others], [])

    def test_imports_name_the_file_that_defines(self):
        for name, node in nodes_of(ast.ImportFrom):
            tree = ast.parse((PACKAGE / (node.module.split(".")[1] + ".py")).read_text(encoding="utf-8"))
            defined = {one.name for one in tree.body if isinstance(one, (ast.FunctionDef, ast.ClassDef))}
            defined |= {one.targets[0].id for one in tree.body if isinstance(one, ast.Assign)}
            for one in node.names:
                self.assertIn(one.name, defined, (name, node.lineno))

    def test_builtins_take_lists_and_not_generators(self):
        self.assertEqual(nodes_of(ast.GeneratorExp), [])

    def test_only_told_builtins_are_read(self):
        for name, node in nodes_of(ast.Name):
            if hasattr(builtins, node.id):
                self.assertIn(node.id, BUILTINS, (name, node.lineno))

    def test_methods_are_own_or_told_ones(self):
        own = {one.name for _, node in nodes_of(ast.ClassDef) for one in node.body if isinstance(one, ast.FunctionDef)}
        for name, node in nodes_of(ast.Call):
            if isinstance(node.func, ast.Attribute):
                self.assertIn(node.func.attr, own | set(BUILTIN_METHODS), (name, node.lineno))

    def test_attributes_have_no_barred_names(self):
        for name, node in nodes_of(ast.Attribute):
            if isinstance(node.ctx, ast.Store):
                self.assertNotIn(node.attr, BARRED_ATTRIBUTES, (name, node.lineno))

    def test_texts_have_no_barred_sign(self):
        for name, node in nodes_of(ast.Constant):
            if isinstance(node.value, str):
                self.assertNotIn(chr(37), node.value, (name, node.lineno))

    def test_only_own_errors_are_caught(self):
        for name, node in nodes_of(ast.ExceptHandler):
            self.assertIn(node.type.id, vars(errors), (name, node.lineno))

    def test_is_stands_only_beside_none_and_truths(self):
        for name, node in nodes_of(ast.Compare):
            for sign, right in zip(node.ops, node.comparators):
                if isinstance(sign, (ast.Is, ast.IsNot)):
                    self.assertIn(getattr(right, "value", right), (None, True, False), (name, node.lineno))


if __name__ == "__main__":
    unittest.main()
