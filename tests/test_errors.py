"""The classes of loafshares.errors."""

import inspect
import unittest

from loafshares import errors
from loafshares.errors import LoafError
from loafshares.fractions import fraction, over
from loafshares.stuffs import Stuff

ATTRIBUTES = {
    "NoFraction": (), "NoStuff": ("field",), "NoDough": ("field",), "NoPan": ("field",), "NoOrder": ("field",),
    "Twice": ("who",), "NoName": ("who",), "NoFlour": ("who",), "NoFeel": ("who",), "Dry": ("who",),
    "Unknown": ("where", "who"), "Ring": ("names",), "Uneven": ("told",), "Short": ("who", "missing"),
    "NoWeight": (), "NoWeights": (), "NoStep": (), "TooLittle": (), "NoWhole": (), "NoTaken": (), "NoCount": (),
    "NoBy": (), "NoText": (), "NoHour": (), "Late": ("by",), "Lacking": (), "NoRow": (),
}

WORTHS = {
    "field": "rows", "who": "rye", "where": "loaf", "names": ("loaf", "sponge"), "told": (3, 4), "missing": (1, 2),
    "by": 5,
}


def made(name):
    """An error of that class, told of what its attributes say, in the interface's order."""
    kind = getattr(errors, name)
    return kind(*[WORTHS[attribute] for attribute in ATTRIBUTES[name]])


class TestClasses(unittest.TestCase):
    def test_each_is_listed_and_no_other(self):
        found = [name for name, thing in vars(errors).items() if inspect.isclass(thing)]
        self.assertEqual(sorted(found), sorted([*ATTRIBUTES, "LoafError"]))

    def test_each_is_defined_there(self):
        for name in [*ATTRIBUTES, "LoafError"]:
            self.assertEqual(getattr(errors, name).__module__, "loafshares.errors")

    def test_loaf_error_is_a_value_error(self):
        self.assertEqual(LoafError.__bases__, (ValueError,))

    def test_each_is_straight_under_loaf_error(self):
        for name in ATTRIBUTES:
            with self.subTest(name=name):
                self.assertEqual(getattr(errors, name).__bases__, (LoafError,))

    def test_none_is_one_of_the_others(self):
        for name in ATTRIBUTES:
            error = made(name)
            self.assertIsInstance(error, LoafError)
            self.assertIsInstance(error, ValueError)
            for other in ATTRIBUTES:
                with self.subTest(name=name, other=other):
                    self.assertEqual(isinstance(error, getattr(errors, other)), name == other)

    def test_attributes_are_set_when_made(self):
        for name, attributes in ATTRIBUTES.items():
            error = made(name)
            for attribute in attributes:
                with self.subTest(name=name, attribute=attribute):
                    self.assertEqual(getattr(error, attribute), WORTHS[attribute])

    def test_each_has_words(self):
        for name in ATTRIBUTES:
            with self.subTest(name=name):
                self.assertIsInstance(str(made(name)), str)

    def test_of_two_errors_neither_knows_of_the_other(self):
        one, other = errors.NoName("rye"), errors.NoName("salt")
        self.assertEqual((one.who, other.who), ("rye", "salt"))


class TestRaised(unittest.TestCase):
    """Refusals of stage 1 are caught by any class above them."""

    def test_caught_as_loaf_error_and_as_value_error(self):
        refused = [
            lambda: fraction(1, 0), lambda: over((1, 2), (0, 1)), lambda: Stuff("Rye"),
            lambda: Stuff("rye").measure("name"),
        ]
        for call in refused:
            for kind in (LoafError, ValueError):
                with self.assertRaises(kind):
                    call()


if __name__ == "__main__":
    unittest.main()
