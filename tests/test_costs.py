"""Costs, and what parts doughs: [19], and of [2], [3] and [4] what is told of them."""

import inspect
import unittest
from random import Random

from breads import book, number, other_book, pair, reckoned, reckoned_measure, some_books, some_fraction
from loafshares.books import Book
from loafshares.costs import cost, parting
from loafshares.doughs import Dough
from loafshares.errors import NoWeight
from loafshares.fractions import is_fraction
from loafshares.pans import scaled
from loafshares.sheets import weighed
from loafshares.stuffs import Stuff
from refusals import Refusals
from things import odd_things

NAMELESS = [None, "", "oil", "rye", "Loaf", "loaf ", ["loaf"], ("loaf",), {"loaf"}, b"loaf"]
WEIGHTLESS = [
    (0, 1), (-1, 1), (2, 4), (0, 2), (1, 0), (1, -1), (True, 1), (1, True), [1, 1], (1,), (1, 1, 1), None, "1", 1, True,
]


class TestCost(Refusals):
    def test_interface(self):
        self.assertEqual(list(inspect.signature(cost).parameters), ["book", "dough", "weight"])
        self.assertEqual(list(inspect.signature(parting).parameters), ["book", "dough", "other", "another"])
        self.assertEqual((cost.__module__, parting.__module__), ("loafshares.costs",) * 2)

    def test_of_stuffs_alone(self):
        self.assertEqual(cost(book(), "sour", (4, 1)), (6, 1))
        self.assertEqual(cost(book(), "roll", (3, 1)), (21, 4))
        self.assertEqual(cost(weight=(1, 2), dough="brine", book=book()), (1, 40))

    def test_of_doughs_within_doughs(self):
        # wheat 15, rye 7/8, salt 2/5
        self.assertEqual(cost(book(), "loaf", (117, 5)), pair(30 + number((21, 8)) + number((1, 5))))
        self.assertEqual(cost(book(), "soak", (6, 1)), (1, 5))

    def test_of_stuffs_without_a_price(self):
        one = Book([Stuff("water", water=(1, 1))], [Dough("a", [("water", (1, 1))])])
        self.assertEqual(cost(one, "a", (7, 1)), (0, 1))

    def test_it_is_what_all_that_the_sheet_weighs_costs(self):
        random = Random(21)
        for one in [book(), other_book(), *some_books()]:
            for name in one.doughs():
                weight = some_fraction(random, 6)
                prices = [number(much) * number(one.stuff(stuff).price()) for stuff, much in weighed(one, name, weight).items()]
                told = cost(one, name, weight)
                self.assertEqual(told, pair(sum(prices)))
                self.assertEqual(told, pair(reckoned_measure(one, name, "price") * number(weight)))
                self.assertTrue(is_fraction(told))

    def test_weights_of_twelve_figures(self):
        self.assertEqual(cost(book(), "sour", (999999999999, 1)), (2999999999997, 2))
        self.assertEqual(cost(book(), "sour", (1, 999999999999)), (1, 666666666666))

    def test_no_name_ahead_of_no_weight(self):
        for thing in [*odd_things(), *NAMELESS]:
            self.no_name(thing, cost, book(), thing, (1, 1))
            self.no_name(thing, cost, book(), thing, thing)
            self.no_name(thing, cost, weight=(0, 1), dough=thing, book=book())

    def test_no_weight(self):
        for thing in [*odd_things(), *WEIGHTLESS]:
            with self.assertRaises(NoWeight):
                cost(book(), "loaf", thing)
            with self.assertRaises(NoWeight):
                cost(weight=thing, dough="roll", book=book())

    def test_a_refusal_changes_nothing(self):
        one, weight = book(), [1, [1]]
        with self.assertRaises(NoWeight):
            cost(one, "loaf", weight)
        self.assertEqual((one, weight), (book(), [1, [1]]))


class TestParting(Refusals):
    def test_the_same(self):
        for name in book().doughs():
            self.assertIsNone(parting(book(), name, book(), name))
            one = book()
            self.assertIsNone(parting(one, name, one, name))

    def test_the_same_of_other_rows(self):
        twice = Dough("twice", [("sour", (2, 1)), ("rye", (1, 1)), ("water", (1, 1))], 3)
        one = book().put(twice)
        self.assertIsNone(parting(one, "sour", one, "twice"))
        self.assertIsNone(parting(one, "twice", book(), "sour"))
        self.assertIsNone(parting(book(), "loaf", book().put(scaled(book().dough("loaf"), (5, 7))), "loaf"))

    def test_the_same_of_stuffs_with_other_measures(self):
        one = Book([Stuff("rye", (1, 1))], [Dough("a", [("rye", (1, 1))])])
        other = Book([Stuff("oil"), Stuff("rye", price=(9, 1))], [Dough("b", [("c", (2, 1))]), Dough("c", [("rye", (5, 1))])])
        self.assertIsNone(parting(one, "a", other, "b"))

    def test_the_first_stuff_sorted(self):
        one = book()
        self.assertEqual(parting(one, "sour", one, "brine"), ("rye", (1, 2), (0, 1)))
        self.assertEqual(parting(one, "brine", one, "sour"), ("rye", (0, 1), (1, 2)))
        self.assertEqual(parting(one, "soak", one, "brine"), ("salt", (1, 15), (1, 10)))
        self.assertEqual(parting(another="roll", other=one, dough="sour", book=one), ("milk", (0, 1), (1, 3)))
        self.assertEqual(parting(one, "sour", other_book(), "sour"), ("milk", (0, 1), (1, 3)))

    def test_a_first_stuff_of_which_both_have_the_same(self):
        one = Book([Stuff(name) for name in "abc"], [
            Dough("x", [("a", (1, 1)), ("b", (1, 1)), ("c", (2, 1))]), Dough("y", [("c", (1, 1)), ("a", (1, 1)), ("b", (2, 1))]),
            Dough("z", [("a", (1, 1)), ("c", (3, 1))]),
        ])
        self.assertEqual(parting(one, "x", one, "y"), ("b", (1, 4), (1, 2)))
        self.assertEqual(parting(one, "x", one, "z"), ("b", (1, 4), (0, 1)))
        self.assertEqual(parting(one, "z", one, "y"), ("b", (0, 1), (1, 2)))

    def test_by_chance(self):
        books = [book(), other_book(), *some_books()[:12]]
        for one in books:
            for other in books[:5]:
                for name in one.doughs():
                    for another in other.doughs()[:4]:
                        self.check(one, name, other, another)

    def check(self, one, name, other, another):
        ones, others = reckoned(one, name), reckoned(other, another)
        apart = [stuff for stuff in {**ones, **others} if ones.get(stuff, 0) != others.get(stuff, 0)]
        wanted = None
        if apart:
            wanted = (min(apart), pair(ones.get(min(apart), 0)), pair(others.get(min(apart), 0)))
        self.assertEqual(parting(one, name, other, another), wanted)

    def test_no_name_the_first_ones_ahead(self):
        for thing in [*odd_things(), *NAMELESS]:
            self.no_name(thing, parting, book(), thing, book(), "loaf")
            self.no_name(thing, parting, book(), thing, book(), "oil")
            self.no_name(thing, parting, book(), "loaf", other_book(), thing)
            self.no_name(thing, parting, another=thing, other=book(), dough="sour", book=book())
        small = Book([Stuff("rye")], [Dough("a", [("rye", (1, 1))])])
        self.no_name("loaf", parting, small, "loaf", book(), "loaf")
        self.no_name("loaf", parting, book(), "loaf", small, "loaf")


if __name__ == "__main__":
    unittest.main()
