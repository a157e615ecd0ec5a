"""The rules of the language that a look at the files can tell, and the interface's names."""

import ast
import builtins
import importlib
import inspect
import re
import unittest
from pathlib import Path

from roundsides import errors
from roundsides.desk import Desk

FOLDER = Path(__file__).resolve().parent.parent / "roundsides"

BARRED = (
    "type", "typing", "typing_extensions", "enum", "Enum", "IntEnum", "StrEnum", "Flag", "IntFlag", "Generic",
    "Protocol", "ABC", "ABCMeta", "namedtuple", "NamedTuple", "TypedDict", "TYPE_CHECKING", "abstractmethod",
)

BUILTINS = (
    "len", "range", "enumerate", "zip", "min", "max", "sum", "abs", "sorted", "reversed", "int", "str", "bool",
    "list", "tuple", "dict", "set", "isinstance", "ord", "repr", "any", "all", "divmod", "ValueError",
)

METHODS = ("append", "bit_length", "endswith", "join", "partition", "split", "startswith")

ATTRIBUTES = ("outer", "inner", "flag")

INTERFACE = {
    "fracs": {
        "fraction_of": ("top", "bottom"), "frac_sum": ("one", "other"), "frac_less": ("one", "other"),
        "frac_times": ("one", "other"), "frac_by": ("one", "other"), "frac_below": ("one", "other"),
        "frac_root": ("fraction",), "is_fraction": ("thing",),
    },
    "points": {
        "is_triple": ("thing",), "kept_triple": ("three",), "joined": ("one", "other"), "crossed": ("one", "other"),
        "lies_on": ("point", "line"),
    },
    "curves": {
        "is_curve": ("thing",), "kept_curve": ("six",), "curve_has": ("curve", "point"), "dual_curve": ("curve",),
        "curve_touches": ("curve", "line"), "curve_through": ("points",), "curve_touching": ("lines",),
    },
    "walks": {
        "is_flag": ("outer", "inner", "thing"), "next_flag": ("outer", "inner", "flag"),
        "flag_back": ("outer", "inner", "flag"), "walk": ("outer", "inner", "flag", "many"),
    },
    "pairs": {"is_pair": ("outer", "inner"), "pair_cubic": ("outer", "inner")},
    "rows": {
        "root_row": ("cubic", "many"), "ring_table": ("cubic", "sides"), "table_worth": ("rows",),
        "comes_back": ("cubic", "sides"),
    },
    "spots": {
        "is_spot": ("cubic", "thing"), "spot_sum": ("cubic", "one", "other"), "spot_times": ("cubic", "spot", "many"),
    },
    "clocks": {
        "clocks_of": ("outer", "inner"), "rest_flags": ("outer", "inner", "clock"),
        "rest_next": ("outer", "inner", "clock", "flag"), "rest_order": ("outer", "inner", "clock"),
    },
    "counts": {
        "ring_count": ("outer", "inner"), "ring_paper": ("outer", "inner"), "judge_paper": ("outer", "inner", "paper"),
    },
    "chords": {"chord_curve": ("outer", "inner", "steps")},
    "rings": {
        "ring_curves": ("corners", "points", "lines"), "six_curves": ("corners",), "count_cubic": ("sides", "t"),
        "cubic_curves": ("cubic",),
    },
    "firsts": {"line_meets": ("curve", "line"), "first_flags": ("outer", "inner", "most")},
    "circles": {"circle_curve": ("x", "y", "square"), "circles_rule": ("outer", "inner", "gap")},
    "texts": {
        "shown_triple": ("triple",), "shown_flag": ("flag",), "shown_curve": ("curve",), "shown_cubic": ("cubic",),
        "shown_paper": ("paper",), "read_triple": ("text",), "read_flag": ("text",), "read_curve": ("text",),
        "read_cubic": ("text",), "read_paper": ("text",),
    },
    "desk": {"Desk": ()},
}


def texts():
    return [(path, path.read_bytes().decode("ascii")) for path in sorted(FOLDER.rglob("*.py"))]


def trees():
    return [(path, ast.parse(text)) for path, text in texts()]


class Files(unittest.TestCase):
    def test_the_folder_has_only_files_of_python(self):
        self.assertTrue((FOLDER / "__init__.py").is_file())
        for path in FOLDER.rglob("*"):
            if "__pycache__" not in path.parts:
                self.assertRegex(path.name, r"\A[a-z0-9_]+\.py\Z")

    def test_signs_and_sizes(self):
        for path, text in texts():
            self.assertIsNone(re.search(r"[^\n -~]", text), path)
            rows = text.split("\n")
            self.assertLessEqual(len(rows), 400, path)
            for row in rows:
                self.assertLessEqual(len(row), 120, path)
                self.assertEqual(row, row.rstrip(), path)

    def test_barred_words(self):
        for path, text in texts():
            for word in re.findall(r"\w+", text):
                self.assertNotIn(word, BARRED, path)

    def test_functions_are_short(self):
        for path, tree in trees():
            for node in ast.walk(tree):
                if isinstance(node, ast.FunctionDef):
                    self.assertLessEqual(node.end_lineno - node.lineno + 1, 40, (path, node.name))

    def test_imports_name_the_file_that_defines_the_name(self):
        for path, tree in trees():
            for node in ast.walk(tree):
                self.assertNotIsInstance(node, ast.Import, path)
                if isinstance(node, ast.ImportFrom):
                    self.assertEqual((node.level, node.module.split(".")[0]), (0, "roundsides"), path)
                    module = importlib.import_module(node.module)
                    for alias in node.names:
                        self.assertEqual(getattr(module, alias.name).__module__, node.module, path)

    def test_no_other_builtins_floats_or_slashes(self):
        for path, tree in trees():
            bound = {node.id for node in ast.walk(tree) if isinstance(node, ast.Name) and isinstance(node.ctx, ast.Store)}
            bound |= {node.arg for node in ast.walk(tree) if isinstance(node, ast.arg)}
            bound |= {node.name for node in ast.walk(tree) if isinstance(node, (ast.FunctionDef, ast.ClassDef))}
            bound |= {node.name for node in ast.walk(tree) if isinstance(node, ast.alias)}
            self.assertEqual(sorted(bound & set(BUILTINS)), [], path)
            for node in ast.walk(tree):
                if isinstance(node, ast.Name):
                    self.assertIn(node.id, sorted(bound) + list(BUILTINS), path)
                    self.assertFalse(node.id.startswith("_"), path)
                self.assertNotIsInstance(node, (ast.Div, ast.Global, ast.AsyncFunctionDef), path)
                if isinstance(node, ast.Constant):
                    self.assertNotIsInstance(node.value, (float, complex), path)


class Rules(unittest.TestCase):
    def test_statements_and_expressions(self):
        barred = (
            ast.Lambda, ast.Global, ast.Nonlocal, ast.Yield, ast.YieldFrom, ast.Await, ast.With, ast.NamedExpr, ast.GeneratorExp,
            ast.AnnAssign, ast.Delete, ast.Assert,
        )
        for path, tree in trees():
            for node in ast.walk(tree):
                # The program does without these, so their rules need not be looked at.
                self.assertNotIsInstance(node, barred, path)
                if isinstance(node, (ast.FunctionDef, ast.ClassDef)):
                    self.assertEqual(node.decorator_list, [], path)

    def test_module_level(self):
        for path, tree in trees():
            names = []
            for node in tree.body:
                self.assertIsInstance(node, (ast.Expr, ast.ImportFrom, ast.FunctionDef, ast.ClassDef, ast.Assign), path)
                if isinstance(node, ast.Expr):
                    self.assertIs(node, tree.body[0], path)
                elif isinstance(node, ast.Assign):
                    self.assertFalse(any(isinstance(part, (ast.Call, ast.Lambda)) for part in ast.walk(node)), path)
                    names += [target.id for target in node.targets]
                elif isinstance(node, ast.ImportFrom):
                    names += [alias.name for alias in node.names]
                    self.assertTrue(all(alias.asname is None for alias in node.names), path)
                else:
                    names.append(node.name)
            self.assertEqual(len(names), len(set(names)), path)

    def test_names_within_functions(self):
        for path, tree in trees():
            outside = {alias.name for node in tree.body if isinstance(node, ast.ImportFrom) for alias in node.names}
            outside |= {node.name for node in tree.body if isinstance(node, (ast.FunctionDef, ast.ClassDef))}
            for function in ast.walk(tree):
                if isinstance(function, ast.FunctionDef):
                    own = {node.arg for node in ast.walk(function) if isinstance(node, ast.arg)}
                    own |= {node.id for node in ast.walk(function) if isinstance(node, ast.Name) and isinstance(node.ctx, ast.Store)}
                    self.assertEqual(sorted(own & (outside | set(dir(builtins)))), [], (path, function.name))

    def test_methods_of_values(self):
        for path, tree in trees():
            for node in ast.walk(tree):
                if isinstance(node, ast.Attribute):
                    self.assertIn(node.attr, METHODS + ATTRIBUTES, path)

    def test_is_and_powers_and_texts(self):
        for path, tree in trees():
            for node in ast.walk(tree):
                if isinstance(node, ast.Compare) and isinstance(node.ops[0], (ast.Is, ast.IsNot)):
                    self.assertIn(ast.unparse(node.comparators[0]), ("None", "True", "False"), path)
                if isinstance(node, ast.BinOp) and isinstance(node.op, ast.Pow):
                    self.assertIsInstance(node.right, ast.Constant, path)
                if isinstance(node, ast.Constant) and isinstance(node.value, str):
                    self.assertNotIn("%", node.value, path)

    def test_what_is_iterated_at_once(self):
        once = ("zip", "enumerate", "reversed", "range")
        for path, tree in trees():
            held = [node.value for node in ast.walk(tree) if isinstance(node, (ast.Assign, ast.Return, ast.Starred))]
            for node in held:
                called = isinstance(node, ast.Call) and isinstance(node.func, ast.Name)
                self.assertFalse(called and node.func.id in once, path)

    def test_sets_stand_only_in_sorted(self):
        for path, tree in trees():
            within = [part for node in ast.walk(tree) if isinstance(node, ast.Call) and ast.unparse(node.func) == "sorted"
                      for part in node.args]
            for node in ast.walk(tree):
                made = isinstance(node, ast.Call) and ast.unparse(node.func) == "set"
                if made or isinstance(node, (ast.Set, ast.SetComp)):
                    self.assertIn(node, within, path)

    def test_refusals_are_made_on_the_spot_and_caught_by_name(self):
        for path, tree in trees():
            for node in ast.walk(tree):
                if isinstance(node, ast.Raise):
                    self.assertIsInstance(node.exc, ast.Call, path)
                    self.assertTrue(hasattr(errors, node.exc.func.id), path)
                if isinstance(node, ast.ExceptHandler):
                    self.assertTrue(hasattr(errors, node.type.id), path)

    def test_imports_go_one_way(self):
        above = {}
        for path, tree in trees():
            above[path.stem] = [node.module.split(".")[1] for node in tree.body if isinstance(node, ast.ImportFrom)]
        done = []
        while len(done) < len(above):
            free = [name for name in above if name not in done and all(other in done for other in above[name])]
            self.assertNotEqual(free, [])
            done += free


class Interface(unittest.TestCase):
    def test_names_and_arguments(self):
        for name, functions in INTERFACE.items():
            module = importlib.import_module("roundsides." + name)
            for function, arguments in functions.items():
                told = tuple(inspect.signature(getattr(module, function)).parameters)
                self.assertEqual(told, arguments, function)

    def test_the_method_stands_in_its_class(self):
        self.assertEqual(tuple(inspect.signature(vars(Desk)["tell"]).parameters), ("self", "line"))


if __name__ == "__main__":
    unittest.main()
