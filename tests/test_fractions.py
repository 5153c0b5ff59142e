"""Fractions and names: [5], and of [2] and [3] what is told of them."""

import inspect
import unittest
from fractions import Fraction

from loafshares import fractions
from loafshares.errors import NoFraction
from loafshares.fractions import (
    fraction, fraction_text, is_fraction, is_less, is_name, minus, over, plus, times,
)
from things import odd_things

LARGE = [999999999999, 999999999989, 100000000000, 123456789012, 720720720720, -999999999999, -500000000000]
SMALL = list(range(-7, 8))
PARTS = {
    "fraction": ["top", "bottom"], "plus": ["one", "other"], "minus": ["one", "other"], "times": ["one", "other"],
    "over": ["one", "other"], "is_less": ["one", "other"], "is_fraction": ["thing"], "fraction_text": ["one"],
    "is_name": ["thing"],
}


def pair(exact):
    """The tuple of one of Python's own fractions."""
    return (exact.numerator, exact.denominator)


def some_fractions():
    """Python's own fractions: all small ones, and some of twelve figures above, below or both."""
    small = {Fraction(top, bottom) for top in SMALL for bottom in range(1, 7)}
    large = {Fraction(top, abs(bottom)) for top in LARGE + [0, 1] for bottom in LARGE + [1, 7]}
    return sorted(small) + sorted(large)


class TestInterface(unittest.TestCase):
    def test_each_is_defined_there_with_its_arguments(self):
        for name, arguments in PARTS.items():
            with self.subTest(name=name):
                function = getattr(fractions, name)
                self.assertEqual(function.__module__, "loafshares.fractions")
                self.assertEqual(list(inspect.signature(function).parameters), arguments)

    def test_by_name(self):
        self.assertEqual(fraction(bottom=-4, top=6), (-3, 2))
        self.assertEqual(plus(other=(1, 3), one=(1, 2)), (5, 6))
        self.assertEqual(minus(other=(1, 3), one=(1, 2)), (1, 6))
        self.assertEqual(times(other=(1, 3), one=(1, 2)), (1, 6))
        self.assertEqual(over(other=(1, 3), one=(1, 2)), (3, 2))
        self.assertIs(is_less(other=(1, 3), one=(1, 2)), False)
        self.assertIs(is_less(other=(1, 2), one=(1, 3)), True)
        self.assertEqual(fraction_text(one=(-3, 4)), "-3/4")
        self.assertIs(is_fraction(thing=(-3, 4)), True)
        self.assertIs(is_name(thing="rye"), True)


class TestFraction(unittest.TestCase):
    def test_told(self):
        self.assertEqual(fraction(6, 4), (3, 2))
        self.assertEqual(fraction(-6, 4), (-3, 2))
        self.assertEqual(fraction(6, -4), (-3, 2))
        self.assertEqual(fraction(-6, -4), (3, 2))
        self.assertEqual(fraction(0, 5), (0, 1))
        self.assertEqual(fraction(0, -5), (0, 1))
        self.assertEqual(fraction(5, 5), (1, 1))
        self.assertEqual(fraction(5, 1), (5, 1))
        self.assertEqual(fraction(999999999999, 111111111111), (9, 1))
        self.assertEqual(fraction(999999999999, -999999999998), (-999999999999, 999999999998))

    def test_all_small_and_some_large(self):
        for top in SMALL + LARGE:
            for bottom in SMALL + LARGE:
                if bottom != 0:
                    with self.subTest(top=top, bottom=bottom):
                        self.assertEqual(fraction(top, bottom), pair(Fraction(top, bottom)))
                        self.assertIs(is_fraction(fraction(top, bottom)), True)

    def test_a_tuple_of_ints(self):
        told = fraction(4, -6)
        self.assertIs(type(told), tuple)
        self.assertEqual([type(part) for part in told], [int, int])

    def test_bottom_0(self):
        for top in SMALL + LARGE:
            with self.assertRaises(NoFraction):
                fraction(top, 0)

    def test_asked_again_behind_a_refusal(self):
        before = fraction(4, 6)
        with self.assertRaises(NoFraction):
            fraction(4, 0)
        self.assertEqual(fraction(4, 6), before)


class TestReckoning(unittest.TestCase):
    def test_told(self):
        self.assertEqual(plus((1, 2), (1, 2)), (1, 1))
        self.assertEqual(plus((1, 2), (-1, 2)), (0, 1))
        self.assertEqual(minus((1, 2), (3, 4)), (-1, 4))
        self.assertEqual(times((2, 3), (3, 2)), (1, 1))
        self.assertEqual(times((2, 3), (0, 1)), (0, 1))
        self.assertEqual(over((1, 2), (-3, 4)), (-2, 3))
        self.assertEqual(over((0, 1), (-3, 4)), (0, 1))
        self.assertIs(is_less((-1, 2), (-1, 3)), True)
        self.assertIs(is_less((1, 2), (1, 2)), False)

    def test_against_exact_ones(self):
        exacts = some_fractions()
        for one in exacts:
            for other in exacts:
                left, right = pair(one), pair(other)
                self.assertEqual(plus(left, right), pair(one + other))
                self.assertEqual(minus(left, right), pair(one - other))
                self.assertEqual(times(left, right), pair(one * other))
                self.assertIs(is_less(left, right), one < other)
                if other != 0:
                    self.assertEqual(over(left, right), pair(one / other))

    def test_over_0(self):
        for one in [(0, 1), (1, 1), (-3, 4), (999999999999, 7)]:
            with self.assertRaises(NoFraction):
                over(one, (0, 1))

    def test_what_was_told_may_be_handed_in_whatever_its_size(self):
        exact = Fraction(999999999999, 999999999989)
        told = pair(exact)
        for _ in range(6):
            told, exact = times(told, told), exact * exact
            self.assertEqual(told, pair(exact))
            self.assertIs(is_fraction(told), True)
            self.assertEqual(over(told, told), (1, 1))
            self.assertEqual(minus(told, told), (0, 1))
            self.assertEqual(fraction_text(told), f"{exact}")


class TestFractionText(unittest.TestCase):
    def test_told(self):
        texts = {
            (3, 1): "3", (-3, 4): "-3/4", (0, 1): "0", (1, 2): "1/2", (-3, 1): "-3", (10, 1): "10", (1, 10): "1/10",
            (999999999999, 999999999989): "999999999999/999999999989", (-100000000000, 1): "-100000000000",
            (-1, 100000000000): "-1/100000000000",
        }
        for one, text in texts.items():
            self.assertEqual(fraction_text(one), text)

    def test_against_exact_ones(self):
        for exact in some_fractions():
            self.assertEqual(fraction_text(pair(exact)), str(exact))


class TestIsFraction(unittest.TestCase):
    def test_is_one(self):
        for thing in [(0, 1), (1, 1), (-1, 1), (3, 4), (-3, 4), (7, 1), (1, 7), (999999999999, 999999999989),
                      (10 ** 5000, 3), (-1, 10 ** 5000)]:
            self.assertIs(is_fraction(thing), True)

    def test_all_small(self):
        for top in SMALL:
            for bottom in SMALL:
                wanted = bottom > 0 and pair(Fraction(top, bottom)) == (top, bottom)
                self.assertIs(is_fraction((top, bottom)), wanted)

    def test_not_in_lowest_terms(self):
        for thing in [(2, 4), (-2, 4), (0, 2), (0, 999999999999), (5, 5), (999999999999, 111111111111)]:
            self.assertIs(is_fraction(thing), False)

    def test_bottom_0_or_below(self):
        for thing in [(1, 0), (0, 0), (-1, 0), (1, -1), (0, -1), (1, -2), (-1, -2), (-3, -4)]:
            self.assertIs(is_fraction(thing), False)

    def test_truths(self):
        for thing in [(True, 1), (False, 1), (1, True), (0, True), (True, True), (True, 2), (3, True), True, False]:
            self.assertIs(is_fraction(thing), False)

    def test_other_kinds(self):
        for thing in [[1, 2], [0, 1], (), (1,), (1, 2, 3), (1, 1, 1), "1/2", "12", "", None, 1, 0, (1, None),
                      (None, 1), ("1", 2), (1, "2"), ((1, 2), 3), ((1, 2),), [(1, 2)], {1: 2}, b"12"]:
            self.assertIs(is_fraction(thing), False)

    def test_of_anything(self):
        for thing in odd_things():
            self.assertIs(is_fraction(thing), False)
            self.assertIs(is_fraction([thing, 1]), False)
            self.assertIs(is_fraction((thing,)), False)
            self.assertIs(is_fraction((thing, 0)), False)

    def test_of_anything_in_a_part_s_place(self):
        for thing in odd_things():
            if isinstance(thing, bool) or not isinstance(thing, int):
                self.assertIs(is_fraction((thing, 1)), False)
                self.assertIs(is_fraction((1, thing)), False)
                self.assertIs(is_fraction((thing, thing)), False)

    def test_what_is_handed_in_stays(self):
        thing = [1, 2]
        self.assertIs(is_fraction(thing), False)
        self.assertEqual(thing, [1, 2])


class TestIsName(unittest.TestCase):
    def test_is_one(self):
        for thing in ["a", "z", "m", "rye", "water", "abcdefghij", "klmnopqrst", "uvwxyz", "zzzzzzzzzz"]:
            self.assertIs(is_name(thing), True)

    def test_no_sign_and_eleven(self):
        for thing in ["", "abcdefghijk", "aaaaaaaaaaa", "a" * 4000]:
            self.assertIs(is_name(thing), False)

    def test_each_sign(self):
        for code in [*range(0, 300), 0x3B1, 0x430, 0xFF41, 0x1D41A]:
            self.assertIs(is_name(chr(code)), 97 <= code <= 122)

    def test_another_sign_at_any_place(self):
        for sign in ["A", "Z", "0", "9", " ", "{", "`", "\n", "-", "_", ".", "\t", "\u00e9", "\u00df"]:
            for length in range(1, 11):
                for place in range(length):
                    thing = "a" * place + sign + "z" * (length - place - 1)
                    self.assertIs(is_name(thing), False)

    def test_line_feed_at_the_end(self):
        for thing in ["rye\n", "abcdefghi\n", "abcdefghij\n", "\n"]:
            self.assertIs(is_name(thing), False)

    def test_other_kinds(self):
        for thing in [None, ["a"], ("a",), ["r", "y", "e"], ("r", "y", "e"), b"rye", {"rye": 1}, {"rye"}, 1, True]:
            self.assertIs(is_name(thing), False)

    def test_of_anything(self):
        for thing in odd_things():
            self.assertIs(is_name(thing), False)


if __name__ == "__main__":
    unittest.main()
