"""The names, the places and the parameters of the interface, and the form of the package."""

import ast
import inspect
import pathlib
import unittest

from opendeeds import books, chance, costs, desk, least, orders, parts, places, runs, seen
from opendeeds import session, shutting, swaps, texts

FUNCTIONS = {
    books: {
        "is_book": ["thing"],
        "may": ["book", "done"],
        "is_state": ["book", "thing"],
        "states": ["book"],
        "state_counts": ["book"],
    },
    texts: {"write_book": ["book"], "read_book": ["text"]},
    runs: {
        "is_run": ["book", "thing"],
        "reach": ["book"],
        "barred": ["book"],
        "bar_of": ["book", "deed"],
        "bar_holds": ["book", "deed", "thing"],
        "count_runs": ["book"],
        "first_run": ["book"],
        "runs": ["book"],
        "run_at": ["book", "number"],
        "number_of": ["book", "run"],
        "runs_through": ["book", "state"],
        "runs_ahead": ["book", "deed", "other"],
    },
    swaps: {
        "swaps_of": ["book", "run"],
        "swaps_between": ["book", "run", "other"],
        "swaps_hold": ["book", "run", "other", "thing"],
        "least_swaps": ["book", "run", "other"],
        "goes_on": ["book", "state", "other"],
    },
    shutting: {
        "is_shut": ["book", "thing"],
        "shut_sets": ["book"],
        "left_by": ["book", "deeds"],
        "closure": ["book", "deeds"],
        "brings": ["book", "deeds", "deed"],
        "corners": ["book", "shut"],
        "bare_sets": ["book"],
        "needs": ["book", "deeds", "deed"],
    },
    least: {
        "ways": ["book", "deed"],
        "least_book": ["book"],
        "are_alike": ["book", "other"],
        "unlike_state": ["book", "other"],
        "spare_lots": ["book"],
        "book_of": ["count", "family"],
        "family_fault": ["count", "family"],
    },
    costs: {
        "worst_of": ["book", "costs", "run"],
        "least_worst": ["book", "costs"],
        "met_by": ["book", "days"],
        "late_deeds": ["book", "days", "run"],
        "least_late": ["book", "days"],
        "least_sum": ["book", "weights"],
        "best_state": ["book", "weights"],
    },
    orders: {
        "order_book": ["count", "pairs"],
        "is_order": ["book"],
        "order_pairs": ["book"],
        "of_runs": ["count", "runs"],
        "joined": ["book", "other"],
        "most_ways": ["book"],
        "runs_for": ["book"],
        "runs_make": ["book", "thing"],
    },
    parts: {
        "done_first": ["book", "state"],
        "kept_alone": ["book", "deeds"],
        "beside": ["book", "other"],
        "behind": ["book", "other"],
        "in_place": ["book", "deed", "other"],
    },
    places: {
        "row_book": ["count"],
        "tree_book": ["count", "pairs"],
        "reach_book": ["count", "pairs", "place"],
        "outer_book": ["points"],
        "outer_points": ["points", "left"],
    },
    chance: {
        "run_chance": ["book", "run"],
        "state_chances": ["book", "count"],
        "ahead_chance": ["book", "deed", "other"],
        "mean_place": ["book", "deed"],
    },
    seen: {
        "least_seen": ["count", "seen"],
        "can_refuse": ["count", "seen", "refused"],
        "sure_next": ["count", "seen", "done"],
    },
}

# Each method has the object itself ahead of these parameters.
CLASSES = {
    session.Session: {
        "__init__": ["book"],
        "do": ["deed"],
        "add_lot": ["deed", "lot"],
        "drop_lot": ["deed", "lot"],
        "undo": [],
        "book": [],
        "run": [],
        "may": [],
        "left": [],
        "ways_on": [],
        "__len__": [],
        "__eq__": ["other"],
        "copy": [],
    },
    desk.Desk: {"__init__": [], "say": ["row"], "session": []},
}

# The modules of Python itself of which the language lets some names be imported.
LIBRARY = ("__future__", "collections", "heapq", "itertools", "math")

PACKAGE = pathlib.Path(books.__file__).parent


def package_files():
    """The files of the package, without what Python itself puts there."""
    return [path for path in sorted(PACKAGE.rglob("*")) if "__pycache__" not in path.parts]


class Interface(unittest.TestCase):
    def test_functions_and_their_parameters(self):
        for module, functions in FUNCTIONS.items():
            for name, parameters in functions.items():
                with self.subTest(name):
                    function = getattr(module, name)
                    self.assertTrue(inspect.isfunction(function))
                    self.assertEqual(function.__module__, module.__name__)
                    self.assertEqual(list(inspect.signature(function).parameters), parameters)


    def test_classes_and_their_methods(self):
        for made, methods in CLASSES.items():
            for name, parameters in methods.items():
                with self.subTest(f"{made.__name__}.{name}"):
                    self.assertIn(name, vars(made))
                    method = vars(made)[name]
                    self.assertTrue(inspect.isfunction(method))
                    self.assertEqual(list(inspect.signature(method).parameters)[1:], parameters)

    def test_classes_stand_in_their_files(self):
        for made, module in ((session.Session, session), (desk.Desk, desk)):
            self.assertEqual(made.__module__, module.__name__)


class Form(unittest.TestCase):
    def test_only_files_of_python(self):
        self.assertIn(PACKAGE / "__init__.py", package_files())
        for path in package_files():
            self.assertTrue(path.is_file() and path.suffix == ".py", path)

    def test_signs_and_sizes(self):
        for path in package_files():
            text = path.read_text(encoding="ascii")
            lines = text.split("\n")
            self.assertLessEqual(len(lines), 400, path)
            self.assertLessEqual(max(len(line) for line in lines), 120, path)
            self.assertFalse(set(text) - {"\n"} - {chr(sign) for sign in range(32, 127)}, path)

    def test_functions_are_short(self):
        for path in package_files():
            for node in ast.walk(ast.parse(path.read_text())):
                if isinstance(node, ast.FunctionDef):
                    self.assertLessEqual(node.end_lineno - node.lineno + 1, 40, node.name)

    def test_imports_are_of_the_package(self):
        for path in package_files():
            for node in ast.walk(ast.parse(path.read_text())):
                self.assertNotIsInstance(node, ast.Import, path)
                if isinstance(node, ast.ImportFrom):
                    self.assertEqual(node.level, 0, path)
                    self.assertTrue(node.module in LIBRARY or node.module.startswith("opendeeds."))


if __name__ == "__main__":
    unittest.main()
