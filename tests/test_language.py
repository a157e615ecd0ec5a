"""The rules of the language that a look at the files can tell, and the interface's names."""

import ast
import importlib
import inspect
import re
import unittest
from pathlib import Path

FOLDER = Path(__file__).resolve().parent.parent / "roundsides"

BARRED = (
    "type", "typing", "typing_extensions", "enum", "Enum", "IntEnum", "StrEnum", "Flag", "IntFlag", "Generic",
    "Protocol", "ABC", "ABCMeta", "namedtuple", "NamedTuple", "TypedDict", "TYPE_CHECKING", "abstractmethod",
)

BUILTINS = (
    "len", "range", "enumerate", "zip", "min", "max", "sum", "abs", "sorted", "reversed", "int", "str", "bool",
    "list", "tuple", "dict", "set", "isinstance", "ord", "repr", "any", "all", "divmod", "ValueError",
)

INTERFACE = {
    "fracs": {
        "fraction_of": ("top", "bottom"), "frac_sum": ("one", "other"), "frac_less": ("one", "other"),
        "frac_times": ("one", "other"), "frac_by": ("one", "other"), "frac_below": ("one", "other"),
        "frac_root": ("fraction",), "is_fraction": ("thing",),
    },
    "points": {
        "is_triple": ("thing",), "kept_triple": ("three",), "joined": ("one", "other"), "crossed": ("one", "other"),
        "lies_on": ("point", "line"),
    },
    "curves": {
        "is_curve": ("thing",), "kept_curve": ("six",), "curve_has": ("curve", "point"), "dual_curve": ("curve",),
        "curve_touches": ("curve", "line"), "curve_through": ("points",), "curve_touching": ("lines",),
    },
    "walks": {
        "is_flag": ("outer", "inner", "thing"), "next_flag": ("outer", "inner", "flag"),
        "flag_back": ("outer", "inner", "flag"), "walk": ("outer", "inner", "flag", "many"),
    },
    "pairs": {"is_pair": ("outer", "inner"), "pair_cubic": ("outer", "inner")},
    "rows": {
        "root_row": ("cubic", "many"), "ring_table": ("cubic", "sides"), "table_worth": ("rows",),
        "comes_back": ("cubic", "sides"),
    },
    "spots": {
        "is_spot": ("cubic", "thing"), "spot_sum": ("cubic", "one", "other"), "spot_times": ("cubic", "spot", "many"),
    },
    "clocks": {
        "clocks_of": ("outer", "inner"), "rest_flags": ("outer", "inner", "clock"),
        "rest_next": ("outer", "inner", "clock", "flag"), "rest_order": ("outer", "inner", "clock"),
    },
    "counts": {
        "ring_count": ("outer", "inner"), "ring_paper": ("outer", "inner"), "judge_paper": ("outer", "inner", "paper"),
    },
    "chords": {"chord_curve": ("outer", "inner", "steps")},
    "rings": {
        "ring_curves": ("corners", "points", "lines"), "six_curves": ("corners",), "count_cubic": ("sides", "t"),
        "cubic_curves": ("cubic",),
    },
}


def texts():
    return [(path, path.read_bytes().decode("ascii")) for path in sorted(FOLDER.rglob("*.py"))]


def trees():
    return [(path, ast.parse(text)) for path, text in texts()]


class Files(unittest.TestCase):
    def test_the_folder_has_only_files_of_python(self):
        self.assertTrue((FOLDER / "__init__.py").is_file())
        for path in FOLDER.rglob("*"):
            if "__pycache__" not in path.parts:
                self.assertRegex(path.name, r"\A[a-z0-9_]+\.py\Z")

    def test_signs_and_sizes(self):
        for path, text in texts():
            self.assertIsNone(re.search(r"[^\n -~]", text), path)
            rows = text.split("\n")
            self.assertLessEqual(len(rows), 400, path)
            for row in rows:
                self.assertLessEqual(len(row), 120, path)
                self.assertEqual(row, row.rstrip(), path)

    def test_barred_words(self):
        for path, text in texts():
            for word in re.findall(r"\w+", text):
                self.assertNotIn(word, BARRED, path)

    def test_functions_are_short(self):
        for path, tree in trees():
            for node in ast.walk(tree):
                if isinstance(node, ast.FunctionDef):
                    self.assertLessEqual(node.end_lineno - node.lineno + 1, 40, (path, node.name))

    def test_imports_name_the_file_that_defines_the_name(self):
        for path, tree in trees():
            for node in ast.walk(tree):
                self.assertNotIsInstance(node, ast.Import, path)
                if isinstance(node, ast.ImportFrom):
                    self.assertEqual((node.level, node.module.split(".")[0]), (0, "roundsides"), path)
                    module = importlib.import_module(node.module)
                    for alias in node.names:
                        self.assertEqual(getattr(module, alias.name).__module__, node.module, path)

    def test_no_other_builtins_floats_or_slashes(self):
        for path, tree in trees():
            bound = {node.id for node in ast.walk(tree) if isinstance(node, ast.Name) and isinstance(node.ctx, ast.Store)}
            bound |= {node.arg for node in ast.walk(tree) if isinstance(node, ast.arg)}
            bound |= {node.name for node in ast.walk(tree) if isinstance(node, (ast.FunctionDef, ast.ClassDef))}
            bound |= {node.name for node in ast.walk(tree) if isinstance(node, ast.alias)}
            self.assertEqual(sorted(bound & set(BUILTINS)), [], path)
            for node in ast.walk(tree):
                if isinstance(node, ast.Name):
                    self.assertIn(node.id, sorted(bound) + list(BUILTINS), path)
                    self.assertFalse(node.id.startswith("_"), path)
                self.assertNotIsInstance(node, (ast.Div, ast.Global, ast.AsyncFunctionDef), path)
                if isinstance(node, ast.Constant):
                    self.assertNotIsInstance(node.value, (float, complex), path)


class Interface(unittest.TestCase):
    def test_names_and_arguments(self):
        for name, functions in INTERFACE.items():
            module = importlib.import_module("roundsides." + name)
            for function, arguments in functions.items():
                told = tuple(inspect.signature(getattr(module, function)).parameters)
                self.assertEqual(told, arguments, function)


if __name__ == "__main__":
    unittest.main()
