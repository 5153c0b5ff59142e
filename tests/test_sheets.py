"""Sheets: [12], and of [2], [3] and [4] what is told of them."""

import inspect
import unittest
from random import Random

from breads import book, number, other_book, pair, reckoned, some_books, some_fraction
from loafshares.books import Book
from loafshares.doughs import Dough
from loafshares.errors import NoWeight
from loafshares.fractions import is_fraction, times
from loafshares.opened import opened
from loafshares.sheets import sheet, weighed
from loafshares.stuffs import Stuff
from refusals import Refusals
from things import odd_things

DOUGHS = ["loaf", "sour", "sponge", "roll", "brine", "soak"]
NAMELESS = [None, "", "oil", "rye", "Loaf", "loaf ", ["loaf"], ("loaf",), {"loaf"}, b"loaf"]
WEIGHTLESS = [
    (0, 1), (-1, 1), (-3, 2), (2, 4), (0, 2), (1, 0), (1, -1), (True, 1), (1, True), [1, 1], (1,), (1, 1, 1), None, "1",
    "1/2", "", 1, 0, True, ("1", "1"), [(1, 1)], {1: 1},
]
LOAF = [
    ("sour", (7, 4), [("rye", (7, 8)), ("water", (7, 8))]),
    ("sponge", (6, 1), [("wheat", (3, 1)), ("sour", (3, 4)), ("water", (9, 4))]),
    ("loaf", (117, 5), [("wheat", (12, 1)), ("sponge", (6, 1)), ("water", (4, 1)), ("salt", (2, 5)), ("sour", (1, 1))]),
]


class TestSheet(unittest.TestCase):
    def test_interface(self):
        for function in [sheet, weighed]:
            self.assertEqual(list(inspect.signature(function).parameters), ["book", "dough", "weight"])
            self.assertEqual(function.__module__, "loafshares.sheets")

    def test_of_stuffs_alone(self):
        self.assertEqual(sheet(book(), "sour", (3, 1)), [("sour", (3, 1), [("rye", (3, 2)), ("water", (3, 2))])])
        self.assertEqual(sheet(book(), "brine", (1, 2)), [("brine", (1, 2), [("water", (9, 20)), ("salt", (1, 20))])])

    def test_of_doughs_within_doughs(self):
        wanted = [
            ("brine", (4, 1), [("water", (18, 5)), ("salt", (2, 5))]),
            ("soak", (6, 1), [("seed", (2, 1)), ("brine", (4, 1))]),
        ]
        self.assertEqual(sheet(book(), "soak", (6, 1)), wanted)

    def test_an_inner_one_that_two_doughs_want_stands_once(self):
        self.assertEqual(sheet(book(), "loaf", (117, 5)), LOAF)

    def test_by_names(self):
        self.assertEqual(sheet(weight=(117, 5), dough="loaf", book=book()), LOAF)
        self.assertEqual(weighed(weight=(3, 1), dough="sour", book=book()), {"rye": (3, 2), "water": (3, 2)})

    def test_kinds(self):
        told = sheet(book(), "loaf", (1, 3))
        self.assertIs(type(told), list)
        for page in told:
            self.assertEqual([type(part) for part in page], [str, tuple, list])
            self.assertIs(type(page), tuple)
            for row in page[2]:
                self.assertIs(type(row), tuple)
                self.assertTrue(is_fraction(row[1]) and row[1][0] > 0)

    def test_making_order(self):
        one = Book([Stuff("rye")], [
            Dough("a", [("z", (1, 1)), ("b", (1, 1))]), Dough("b", [("rye", (1, 1))]), Dough("z", [("rye", (1, 1))]),
            Dough("c", [("a", (1, 1)), ("b", (2, 1))]),
        ])
        self.assertEqual([page[0] for page in sheet(one, "c", (1, 1))], ["b", "z", "a", "c"])
        self.assertEqual([page[1] for page in sheet(one, "c", (6, 1))], [(5, 1), (1, 1), (2, 1), (6, 1)])

    def test_deep_within(self):
        doughs = [Dough("a", [("rye", (1, 1))])]
        for outer in "bcdefghijk":
            inner = doughs[-1].name()
            doughs.append(Dough(outer, [(inner, (1, 1)), ("rye", (1, 1))]))
        told = sheet(Book([Stuff("rye")], doughs), "k", (1024, 1))
        self.assertEqual([page[1] for page in told], [(2 ** at, 1) for at in range(11)])

    def test_weights_of_twelve_figures(self):
        for weight in [(999999999999, 1), (1, 999999999999), (999999999998, 999999999999), (1, 1)]:
            told = sheet(book(), "loaf", weight)
            self.assertEqual(told[-1][1], weight)
            for name, much, rows in told:
                self.assertEqual(sum(number(part) for _, part in rows), number(much))
            wanted = {stuff: pair(share * number(weight)) for stuff, share in reckoned(book(), "loaf").items()}
            self.assertEqual(weighed(book(), "loaf", weight), wanted)

    def test_a_weight_that_was_told_may_be_larger(self):
        weight = times((999999999999, 7), (999999999989, 11))
        self.assertEqual(sheet(book(), "roll", weight)[0][2][0], ("milk", times(weight, (1, 3))))

    def test_by_chance(self):
        random = Random(5)
        for one in some_books():
            for name in one.doughs():
                weight = some_fraction(random)
                told = sheet(one, name, weight)
                self.assertEqual([page[0] for page in told], one.making([name]))
                self.check_rows(one, told)
                self.check_weights(told, name, weight)

    def check_rows(self, one, told):
        for name, weight, rows in told:
            own = one.dough(name).rows()
            total = sum(number(parts) for _, parts in own)
            self.assertEqual(rows, [(thing, pair(number(parts) / total * number(weight))) for thing, parts in own])
            self.assertEqual(sum(number(much) for _, much in rows), number(weight))

    def check_weights(self, told, name, weight):
        for dough, made, _ in told:
            wanted = sum(number(much) for _, _, rows in told for thing, much in rows if thing == dough)
            self.assertEqual(made, weight if dough == name else pair(wanted))


class TestWeighed(unittest.TestCase):
    def test_weighed(self):
        self.assertEqual(weighed(book(), "sour", (3, 1)), {"rye": (3, 2), "water": (3, 2)})
        self.assertEqual(weighed(book(), "soak", (6, 1)), {"seed": (2, 1), "water": (18, 5), "salt": (2, 5)})
        wanted = {"wheat": (15, 1), "rye": (7, 8), "water": (57, 8), "salt": (2, 5)}
        self.assertEqual(weighed(book(), "loaf", (117, 5)), wanted)

    def test_it_is_what_opened_times_the_weight_is(self):
        random = Random(6)
        for one in [book(), *some_books()]:
            for name in one.doughs():
                weight = some_fraction(random)
                told = weighed(one, name, weight)
                self.assertIs(type(told), dict)
                self.assertEqual(told, {stuff: times(share, weight) for stuff, share in opened(one, name).items()})

    def test_it_is_all_rows_of_stuffs_added_up(self):
        for one in [book(), *some_books()]:
            for name in one.doughs():
                wanted = {}
                for _, _, rows in sheet(one, name, (2, 3)):
                    for thing, much in rows:
                        if thing in one.stuffs():
                            wanted[thing] = wanted.get(thing, 0) + number(much)
                told = weighed(one, name, (2, 3))
                self.assertEqual(told, {stuff: pair(much) for stuff, much in wanted.items()})


class TestCopies(unittest.TestCase):
    def test_told_lists_and_those_within_them(self):
        one = book()
        first, second = sheet(one, "loaf", (117, 5)), sheet(one, "loaf", (117, 5))
        first[0][2].clear()
        first[2][2].append(("rye", (1, 1)))
        self.assertEqual(first[1], LOAF[1])
        first.clear()
        self.assertEqual(second, LOAF)
        second[1][2].append("rye")
        self.assertEqual(sheet(one, "loaf", (117, 5)), LOAF)
        self.assertEqual(one, book())

    def test_a_told_dict(self):
        one = book()
        first, second = weighed(one, "loaf", (117, 5)), weighed(one, "loaf", (117, 5))
        first.clear()
        self.assertEqual(second, weighed(book(), "loaf", (117, 5)))
        second["oil"] = (1, 1)
        self.assertEqual(weighed(one, "loaf", (117, 5)), weighed(book(), "loaf", (117, 5)))

    def test_of_another_book(self):
        one, other = book(), other_book()
        self.assertEqual(sheet(one, "loaf", (117, 5)), LOAF)
        self.assertEqual(sheet(other, "loaf", (3, 1)), [("loaf", (3, 1), [("milk", (1, 1)), ("rye", (2, 1))])])
        self.assertEqual(weighed(other, "loaf", (3, 1)), {"milk": (1, 1), "rye": (2, 1)})
        self.assertEqual(sheet(one, "loaf", (117, 5)), LOAF)


class TestRefused(Refusals):
    def test_no_dough_of_the_book(self):
        for thing in [*odd_things(), *NAMELESS]:
            for call in [sheet, weighed]:
                self.no_name(thing, call, book(), thing, (1, 1))
                self.no_name(thing, call, weight=(1, 1), dough=thing, book=book())

    def test_no_name_ahead_of_no_weight(self):
        for thing in [*odd_things(), *NAMELESS]:
            for call in [sheet, weighed]:
                self.no_name(thing, call, book(), thing, (0, 1))
                self.no_name(thing, call, book(), thing, None)
                self.no_name(thing, call, book(), thing, thing)

    def test_no_weight(self):
        for thing in [*odd_things(), *WEIGHTLESS]:
            for call in [sheet, weighed]:
                for name in ["loaf", "sour"]:
                    with self.assertRaises(NoWeight):
                        call(book(), name, thing)
                    with self.assertRaises(NoWeight):
                        call(weight=thing, dough=name, book=book())

    def test_a_refusal_changes_nothing(self):
        one, weight, names = book(), [1, [1]], ["loaf"]
        with self.assertRaises(NoWeight):
            sheet(one, "loaf", weight)
        self.no_name(names, weighed, one, names, weight)
        self.assertEqual((one, weight, names), (book(), [1, [1]], ["loaf"]))
        self.assertEqual(sheet(one, "loaf", (117, 5)), LOAF)


if __name__ == "__main__":
    unittest.main()
