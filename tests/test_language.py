"""The rules of LANGUAGE.md that can be seen without a reader; the others are kept by hand."""

import ast
import builtins
import pathlib
import re
import unittest

PACKAGE = pathlib.Path(__file__).resolve().parent.parent / "plotstead"
FILES = sorted(path for path in PACKAGE.rglob("*") if path.is_file() and path.suffix != ".pyc")

OWN_NAMES = """
    len range enumerate zip min max sum abs sorted reversed int str bool list tuple dict set frozenset isinstance
    ord repr any all divmod Exception ValueError TypeError KeyError IndexError LookupError ZeroDivisionError
    ArithmeticError OverflowError RuntimeError NotImplementedError AttributeError StopIteration
""".split()
NODES_LEFT_OUT = (
    ast.With, ast.Match, ast.Delete, ast.Global, ast.Nonlocal, ast.Assert, ast.Yield, ast.YieldFrom, ast.Await,
    ast.AsyncFunctionDef, ast.AsyncFor, ast.AsyncWith, ast.Div, ast.SetComp, ast.DictComp, ast.GeneratorExp,
    ast.NamedExpr, ast.Starred, ast.Import,
)
WORDS_LEFT_OUT = """
    type typing typing_extensions enum Enum IntEnum StrEnum Flag IntFlag Generic Protocol ABC ABCMeta namedtuple
    NamedTuple TypedDict TYPE_CHECKING abstractmethod
""".split()
METHODS = """
    append clear copy count endswith extend find get index insert isalnum isalpha isdigit islower isspace isupper
    items join keys ljust lower lstrip partition pop remove replace reverse rfind rjust rpartition rsplit rstrip
    setdefault split splitlines startswith strip update upper values zfill bit_length
""".split()


class Language(unittest.TestCase):
    def walk(self):
        for path in FILES:
            text = path.read_text(encoding="utf-8")
            for node in ast.walk(ast.parse(text)):
                yield f"{path.name}:{getattr(node, 'lineno', 0)}", node

    def test_only_plainly_named_files_lie_in_the_package(self):
        self.assertIn(PACKAGE / "__init__.py", FILES)
        for path in FILES:
            self.assertRegex(path.name, r"\A([a-z][a-z0-9_]*|__init__|__main__)\.py\Z")

    def test_signs_words_and_sizes(self):
        for path in FILES:
            text = path.read_bytes().decode("utf-8")
            self.assertRegex(text, r"\A[ -~\n]*\Z", path.name)
            lines = text.split("\n")
            self.assertLessEqual(len(lines), 401, path.name)
            self.assertLessEqual(max(map(len, lines)), 120, path.name)
            for word in WORDS_LEFT_OUT:
                self.assertIsNone(re.search(rf"\b{word}\b", text), f"{path.name}: {word}")

    def test_imports_draw_from_the_package_alone(self):
        for place, node in self.walk():
            if isinstance(node, ast.ImportFrom):
                self.assertEqual(node.level, 0, place)
                self.assertRegex(node.module, r"\Aplotstead\.", place)
                self.assertNotIn("*", [alias.name for alias in node.names], place)

    def drawn(self):
        """Of each file, the files from which it draws names, with these names."""
        drawn = {path.stem: {} for path in FILES}
        for path in FILES:
            for node in ast.walk(ast.parse(path.read_text(encoding="utf-8"))):
                if isinstance(node, ast.ImportFrom):
                    drawn[path.stem][node.module.split(".")[1]] = [alias.name for alias in node.names]
        return drawn

    def test_names_are_drawn_from_the_files_that_define_them(self):
        made = {path.stem: self.made_at_the_top(path) for path in FILES}
        for stem, sources in self.drawn().items():
            for source, names in sources.items():
                self.assertLessEqual(set(names), made[source], stem)

    def made_at_the_top(self, path):
        body = ast.parse(path.read_text(encoding="utf-8")).body
        made = [node.name for node in body if isinstance(node, (ast.FunctionDef, ast.ClassDef))]
        made += [node.targets[0].id for node in body if isinstance(node, ast.Assign)]
        self.assertEqual(len(set(made)), len(made), path.name)
        return set(made)

    def test_no_two_files_draw_from_one_another(self):
        drawn = self.drawn()
        while drawn:
            free = [stem for stem, sources in drawn.items() if not set(sources) & set(drawn)]
            self.assertTrue(free, drawn)
            drawn = {stem: sources for stem, sources in drawn.items() if stem not in free}

    def test_no_local_is_called_like_an_import(self):
        drawn = self.drawn()
        for path in FILES:
            names = {name for some in drawn[path.stem].values() for name in some}
            for node in ast.walk(ast.parse(path.read_text(encoding="utf-8"))):
                if isinstance(node, ast.arg):
                    self.assertNotIn(node.arg, names, path.name)
                if isinstance(node, ast.Name) and isinstance(node.ctx, ast.Store):
                    self.assertNotIn(node.id, names, path.name)

    def test_an_assignment_has_one_target(self):
        for place, node in self.walk():
            if isinstance(node, ast.Assign):
                self.assertEqual([isinstance(target, ast.Name) for target in node.targets], [True], place)

    def test_functions_are_short_and_plain(self):
        for place, node in self.walk():
            if isinstance(node, ast.FunctionDef):
                self.assertLessEqual(node.end_lineno - node.lineno + 1, 40, place)
                self.assertEqual(node.decorator_list, [], place)
                plain = node.args
                self.assertFalse(plain.vararg or plain.kwarg or plain.kwonlyargs or plain.posonlyargs, place)

    def test_nothing_stands_there_that_is_left_out(self):
        for place, node in self.walk():
            self.assertNotIsInstance(node, NODES_LEFT_OUT, place)
            if isinstance(node, ast.Constant):
                self.assertNotIsInstance(node.value, (float, complex, bytes), place)
            if isinstance(node, (ast.For, ast.While)):
                self.assertEqual(node.orelse, [], place)

    def test_names_are_plain_and_of_pythons_own_only_those_allowed(self):
        for place, node in self.walk():
            if isinstance(node, ast.Name):
                self.assertFalse(node.id.startswith("_"), place)
                if hasattr(builtins, node.id):
                    self.assertIn(node.id, OWN_NAMES, place)
                    self.assertIsInstance(node.ctx, ast.Load, place)
            if isinstance(node, ast.arg):
                self.assertFalse(node.arg.startswith("_") or hasattr(builtins, node.arg), place)

    def test_methods_are_those_allowed(self):
        for place, node in self.walk():
            if isinstance(node, ast.Attribute):
                self.assertIn(node.attr, METHODS, place)

    def test_is_stands_beside_none_and_truths_alone(self):
        for place, node in self.walk():
            if isinstance(node, ast.Compare) and isinstance(node.ops[0], (ast.Is, ast.IsNot)):
                self.assertIsInstance(node.comparators[0], ast.Constant, place)
                self.assertIn(node.comparators[0].value, (None, True, False), place)

    def test_no_percent_sign_stands_in_a_text(self):
        for place, node in self.walk():
            if isinstance(node, ast.Constant) and isinstance(node.value, str):
                self.assertNotIn("%", node.value, place)


if __name__ == "__main__":
    unittest.main()
