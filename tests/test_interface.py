"""The whole interface: each function, class and method, its arguments by places and by the names that stand there."""

import ast
import importlib
import inspect
import pathlib
import unittest

from breads import book, other_book
from loafshares.bench import Bench
from loafshares.books import Book
from loafshares.desk import Desk
from loafshares.doughs import Dough
from loafshares.pans import Pan
from loafshares.stuffs import Stuff

PACKAGE = pathlib.Path(__file__).resolve().parent.parent / "loafshares"
RYE = Stuff("rye", (1, 1), (0, 1), (0, 1), (4, 5), (7, 3))
SOUR = Dough("sour", [("rye", (1, 1)), ("water", (1, 1))], 12)
TIN = Pan("tin", (3, 2), (1, 8))
THREE = [(1, 1), (2, 1), (3, 1)]
WHOLE = {"rye": (5, 1), "water": (2, 1)}
TEXT = "stuff rye flour 1\n"

# by files: functions, and what is handed in by the names of the interface, in its order
FUNCTIONS = {
    "fractions": {
        "fraction": {"top": 6, "bottom": -4}, "plus": {"one": (1, 2), "other": (1, 3)}, "minus": {"one": (1, 2), "other": (1, 3)},
        "times": {"one": (1, 2), "other": (1, 3)}, "over": {"one": (1, 2), "other": (1, 3)},
        "is_less": {"one": (1, 2), "other": (1, 3)}, "is_fraction": {"thing": (1, 2)}, "fraction_text": {"one": (1, 2)},
        "is_name": {"thing": "rye"},
    },
    "opened": {"opened": {"book": book(), "dough": "loaf"}, "measured": {"book": book(), "dough": "loaf", "word": "water"}},
    "shares": {
        "shares": {"book": book(), "dough": "loaf"}, "row_shares": {"book": book(), "dough": "loaf"},
        "feel": {"book": book(), "dough": "loaf"},
        "by_shares": {"book": book(), "name": "bun", "rows": [("wheat", (1, 1))], "lead": 3},
    },
    "sheets": {
        "sheet": {"book": book(), "dough": "loaf", "weight": (7, 1)}, "weighed": {"book": book(), "dough": "loaf", "weight": (7, 1)},
    },
    "wholes": {
        "left": {"book": book(), "whole": WHOLE, "taken": [("sour", (1, 1))]},
        "rejoined": {"book": book(), "name": "bun", "whole": WHOLE, "taken": [("sour", (1, 1))], "lead": 3},
    },
    "scales": {
        "aims": {"weights": THREE, "step": (4, 1)}, "rounded": {"weights": THREE, "step": (4, 1)},
        "worst_of": {"weights": THREE, "step": (4, 1), "counted": [0, 1, 0]},
        "paper": {"weights": THREE, "step": (4, 1), "bound": (1, 2)},
        "shows": {"weights": THREE, "step": (4, 1), "bound": (1, 2), "thing": ([2], [0, 1, 2])},
    },
    "pans": {
        "loaves": {"weight": (10, 1), "pan": TIN}, "dough_for": {"count": 6, "pan": TIN},
        "pan_for": {"name": "tin", "baked": (21, 16), "loss": (1, 8)}, "scaled": {"dough": SOUR, "weight": (5, 1)},
    },
    "changing": {
        "changed": {"book": book(), "old": "wheat", "new": "rye", "by": "water"}, "moves": {"book": book(), "other": other_book()},
    },
    "costs": {
        "cost": {"book": book(), "dough": "loaf", "weight": (7, 1)},
        "parting": {"book": book(), "dough": "loaf", "other": other_book(), "another": "sour"},
    },
    "booktexts": {"book_text": {"book": book()}, "read_book": {"text": TEXT}},
    "trees": {"tree": {"book": book(), "dough": "loaf"}},
}
# by files: classes, what they are made of, and their methods
CLASSES = {
    "stuffs": ("Stuff", {"name": "rye", "flour": (1, 2), "water": (1, 4), "salt": (1, 8), "thirst": (4, 5), "price": (7, 3)}, {
        "name": {}, "flour": {}, "water": {}, "salt": {}, "thirst": {}, "price": {}, "measure": {"word": "price"},
    }),
    "doughs": ("Dough", {"name": "sour", "rows": SOUR.rows(), "lead": 12}, {"name": {}, "rows": {}, "lead": {}, "total": {}}),
    "books": ("Book", {"stuffs": [RYE, Stuff("water")], "doughs": [SOUR]}, {
        "stuffs": {}, "doughs": {}, "stuff": {"name": "rye"}, "dough": {"name": "sour"}, "within": {"name": "sour"},
        "making": {"names": ["sour"]}, "put": {"thing": Stuff("oil")},
    }),
    "pans": ("Pan", {"name": "tin", "holds": (3, 2), "loss": (1, 8)}, {"name": {}, "holds": {}, "loss": {}, "baked": {}}),
    "bench": ("Bench", {"book": book()}, {
        "bring": {"hour": 3, "stuff": "rye", "weight": (7, 1)},
        "order": {"name": "abe", "dough": "roll", "pan": TIN, "count": 4, "hour": 30},
        "drop": {"name": "abe"}, "orders": {}, "book": {}, "tasks": {}, "lacking": {}, "used": {},
        "most": {"dough": "roll", "pan": TIN, "hour": 30},
    }),
    "desk": ("Desk", {}, {"say": {"row": "stuff rye flour 1"}}),
}
DEFAULTS = {
    "Stuff": {"flour": None, "water": None, "salt": None, "thirst": None, "price": None}, "Dough": {"lead": 0}, "Pan": {"loss": None},
    "by_shares": {"lead": 0}, "rejoined": {"lead": 0}, "pan_for": {"loss": None},
}
SIGNS = {"Stuff": ["__eq__", "__repr__"], "Dough": ["__eq__", "__len__", "__repr__"], "Book": ["__eq__", "__len__"],
         "Pan": ["__eq__", "__repr__"]}


def defined(file):
    """The names that a file defines by def and class."""
    tree = ast.parse((PACKAGE / f"{file}.py").read_text())
    return [row.name for row in tree.body if isinstance(row, (ast.FunctionDef, ast.ClassDef))]


def found(file, name):
    return getattr(importlib.import_module(f"loafshares.{file}"), name)


def backwards(given):
    return dict(reversed(given.items()))


class TestInterface(unittest.TestCase):
    def check_arguments(self, call, name, given, skip=0):
        parameters = list(inspect.signature(call).parameters.values())[skip:]
        self.assertEqual([one.name for one in parameters], list(given), name)
        defaults = {one.name: one.default for one in parameters if one.default is not inspect.Parameter.empty}
        self.assertEqual(defaults, DEFAULTS.get(name, {}), name)

    def test_functions(self):
        for file, functions in FUNCTIONS.items():
            for name, given in functions.items():
                call = found(file, name)
                self.assertIn(name, defined(file))
                self.check_arguments(call, name, given)
                wanted = call(*given.values())
                self.assertTrue(call(**given) == wanted, name)
                self.assertTrue(call(**backwards(given)) == wanted, name)

    def test_classes(self):
        for file, (name, given, methods) in CLASSES.items():
            made = found(file, name)
            self.assertIn(name, defined(file))
            self.check_arguments(made, name, given)
            for sign in SIGNS.get(name, []):
                self.assertIn(sign, vars(made))
            one, other = made(*given.values()), made(**backwards(given))
            for method, arguments in methods.items():
                self.assertIn(method, vars(made))
                self.check_arguments(vars(made)[method], f"{name}.{method}", arguments, 1)
                by_places = getattr(one, method)(*arguments.values())
                self.assertTrue(getattr(other, method)(**backwards(arguments)) == by_places, method)

    def test_what_is_handed_in_stays(self):
        before = repr([FUNCTIONS["scales"], FUNCTIONS["wholes"]["left"]["whole"], FUNCTIONS["wholes"]["left"]["taken"]])
        self.test_functions()
        after = repr([FUNCTIONS["scales"], FUNCTIONS["wholes"]["left"]["whole"], FUNCTIONS["wholes"]["left"]["taken"]])
        self.assertEqual(after, before)
        self.assertEqual(FUNCTIONS["opened"]["opened"]["book"], book())

    def test_no_files_but_those_of_the_interface_and_helpers(self):
        wanted = {"__init__", "errors", "tasks", "words", "deskrows", *FUNCTIONS, *CLASSES}
        self.assertEqual({path.stem for path in PACKAGE.glob("*.py")}, wanted)


class TestPromise(unittest.TestCase):
    """[4]: one way through the whole program, from rows of words to what was ordered."""

    def test_from_a_desk_to_its_text_and_back(self):
        read_book, opened = found("booktexts", "read_book"), found("opened", "opened")
        desk = Desk()
        for row in ["stuff rye flour 1 thirst 4/5 price 3", "stuff water water 1", "dough sour 12 rye 1 water 1", "dough loaf 2 rye 3 sour 2 water 1"]:
            desk.say(row)
        one = read_book(desk.say("text").replace("; ", "\n") + "\n")
        self.assertIsInstance(one, Book)
        self.assertEqual(opened(one, "loaf"), {"rye": (2, 3), "water": (1, 3)})
        bench = Bench(one)
        bench.order("abe", "loaf", TIN, 4, 20)
        for hour, stuff, weight in bench.lacking():
            bench.bring(hour, stuff, weight)
        self.assertEqual(bench.lacking(), [])
        self.assertEqual(bench.most("loaf", TIN, 20), (0, 6, "rye"))


if __name__ == "__main__":
    unittest.main()
