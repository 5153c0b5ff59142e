"""Benches: [22], and of [2], [3] and [4] what is told of them."""

import inspect
import unittest

from breads import book, other_book, some_books
from loafshares.bench import Bench
from loafshares.books import Book
from loafshares.doughs import Dough
from loafshares.errors import Late, NoHour, NoName, NoOrder, NoWeight
from loafshares.pans import Pan
from loafshares.stuffs import Stuff
from refusals import Refusals
from things import odd_things

TIN = Pan("tin", (3, 2), (1, 8))
NO_STUFFS = [None, "", "oil", "loaf", "Rye", "rye ", ["rye"], ("rye",), {"rye"}, b"rye", 1]
NO_DOUGHS = [None, "", "oil", "rye", "Loaf", "loaf ", ["loaf"], ("loaf",), {"loaf"}, b"loaf", 1]
NO_NAMES = [None, "", "Abe", "abe ", "abcdefghijk", b"abe", ("abe",), ["abe"], 1, "a1", "abe\n"]
NO_PANS = [None, "tin", 1, (3, 2), ("tin", (3, 2), (1, 8)), ["tin"], repr(TIN), Pan, Stuff("tin"), book()]
NO_COUNTS = [0, -1, 1000, 10 ** 20, True, False, None, "1", (1, 1), [1], "", (5, 1)]
NO_HOURS = [-1, 10000, 10 ** 20, True, False, None, "1", (1, 1), [1], ""]
WEIGHTLESS = [(0, 1), (-1, 1), (2, 4), (0, 2), (1, 0), (True, 1), [1, 1], (1,), None, "1", 1, True]


def told(bench):
    """All that a bench tells."""
    return (bench.orders(), bench.tasks(), bench.used(), bench.lacking())


class Benches(Refusals):
    def refused(self, bench, kind, call, *given, **named):
        """Refused so, and nothing is changed by it."""
        ahead = told(bench)
        with self.assertRaises(kind) as caught:
            call(*given, **named)
        self.assertEqual(told(bench), ahead)
        return caught.exception

    def no_order(self, field, bench, *given, **named):
        self.assertEqual(self.refused(bench, NoOrder, bench.order, *given, **named).field, field)

    def late(self, by, bench, *given):
        self.assertEqual(self.refused(bench, Late, bench.order, *given).by, by)


class TestMade(Benches):
    def test_interface(self):
        self.assertEqual(Bench.__module__, "loafshares.bench")
        self.assertEqual(list(inspect.signature(Bench).parameters), ["book"])
        arguments = {
            "bring": ["hour", "stuff", "weight"], "order": ["name", "dough", "pan", "count", "hour"], "drop": ["name"],
            "orders": [], "book": [], "tasks": [], "lacking": [], "used": [], "most": ["dough", "pan", "hour"],
        }
        for method, names in arguments.items():
            self.assertEqual(list(inspect.signature(vars(Bench)[method]).parameters)[1:], names)

    def test_a_new_one(self):
        one = book()
        for bench in [Bench(one), Bench(book=one)]:
            self.assertIs(bench.book(), one)
            self.assertEqual(told(bench), ([], [], [], []))
        self.assertEqual(told(Bench(Book([], []))), ([], [], [], []))

    def test_deeds_tell_none(self):
        bench = Bench(book())
        self.assertIsNone(bench.bring(0, "rye", (1, 1)))
        self.assertIsNone(bench.order("abe", "roll", TIN, 1, 0))
        self.assertIsNone(bench.drop("abe"))

    def test_of_two_benches_neither_knows_of_the_other(self):
        one = book()
        first, second = Bench(one), Bench(one)
        first.order("abe", "loaf", TIN, 4, 100)
        first.bring(3, "rye", (100, 1))
        self.assertEqual(told(second), ([], [], [], []))
        second.order("abe", "roll", TIN, 1, 5)
        second.drop("abe")
        self.assertEqual(first.orders(), ["abe"])
        self.assertIs(first.book(), second.book())
        self.assertEqual(one, book())


class TestBring(Benches):
    def test_one_stuff_at_one_hour_twice(self):
        bench = Bench(book())
        bench.order("abe", "sour", Pan("tin", (2, 1)), 1, 12)
        self.assertEqual(bench.lacking(), [(0, "rye", (1, 1)), (0, "water", (1, 1))])
        bench.bring(0, "rye", (1, 3))
        self.assertEqual(bench.lacking()[0], (0, "rye", (2, 3)))
        bench.bring(weight=(1, 2), stuff="rye", hour=0)
        self.assertEqual(bench.lacking()[0], (0, "rye", (1, 6)))
        bench.bring(0, "rye", (1, 6))
        self.assertEqual(bench.lacking(), [(0, "water", (1, 1))])

    def test_the_first_and_the_last_hour(self):
        bench = Bench(book())
        bench.order("abe", "roll", Pan("tin", (3, 1)), 1, 9999)
        bench.bring(9999, "milk", (1, 1))
        self.assertEqual(bench.lacking(), [(9999, "wheat", (2, 1))])
        bench.bring(0, "wheat", (2, 1))
        self.assertEqual(bench.lacking(), [])

    def test_no_name_ahead_of_all(self):
        bench = Bench(book())
        for thing in [*odd_things(), *NO_STUFFS]:
            for given in [(0, thing, (1, 1)), (-1, thing, (1, 1)), (0, thing, (0, 1)), (thing, thing, thing)]:
                self.assertIs(self.refused(bench, NoName, bench.bring, *given).who, thing)
            self.no_name(thing, bench.bring, weight=None, stuff=thing, hour=None)

    def test_no_hour_ahead_of_no_weight(self):
        bench = Bench(book())
        things = [thing for thing in odd_things() if type(thing) is not int or not 0 <= thing <= 9999]
        for hour in [*things, *NO_HOURS]:
            for weight in [(1, 1), (0, 1), None, hour]:
                self.refused(bench, NoHour, bench.bring, hour, "rye", weight)

    def test_no_weight(self):
        bench = Bench(book())
        bench.order("abe", "sour", TIN, 1, 12)
        for weight in [*odd_things(), *WEIGHTLESS]:
            for hour in [0, 9999]:
                self.refused(bench, NoWeight, bench.bring, hour, "rye", weight)
                self.refused(bench, NoWeight, bench.bring, weight=weight, stuff="water", hour=hour)


class TestOrders(Benches):
    def test_names_sorted(self):
        bench = Bench(book())
        for name in ["b", "abcdefghij", "aa", "c", "a"]:
            bench.order(name, "roll", TIN, 1, 0)
        self.assertEqual(bench.orders(), ["a", "aa", "abcdefghij", "b", "c"])

    def test_by_names(self):
        one, other = Bench(book()), Bench(book())
        one.order("abe", "loaf", TIN, 3, 50)
        other.order(hour=50, count=3, pan=TIN, dough="loaf", name="abe")
        self.assertEqual(told(one), told(other))
        one.drop(name="abe")
        self.assertEqual(told(one), ([], [], [], []))

    def test_edges(self):
        bench = Bench(book())
        for name, count, hour in [("a", 1, 0), ("b", 999, 9999), ("c", 1, 9999), ("d", 999, 0)]:
            bench.order(name, "roll", TIN, count, hour)
        self.assertEqual(bench.orders(), ["a", "b", "c", "d"])
        self.assertEqual(bench.tasks(), [(0, "roll", (1500, 1)), (9999, "roll", (1500, 1))])

    def test_names_of_stuffs_and_doughs_may_be_names_of_orders(self):
        bench = Bench(book())
        for name in ["rye", "loaf", "tin"]:
            bench.order(name, "roll", TIN, 1, 0)
        self.assertEqual(bench.orders(), ["loaf", "rye", "tin"])

    def test_a_name_dropped_and_taken_again(self):
        bench = Bench(book())
        bench.order("abe", "roll", TIN, 1, 7)
        self.no_order("name", bench, "abe", "roll", TIN, 2, 8)
        bench.drop("abe")
        self.assertEqual(told(bench), ([], [], [], []))
        bench.order("abe", "roll", TIN, 2, 8)
        self.assertEqual((bench.orders(), bench.tasks()), (["abe"], [(8, "roll", (3, 1))]))

    def test_what_is_brought_stays_when_an_order_is_dropped(self):
        bench = Bench(book())
        bench.bring(0, "wheat", (1, 1))
        bench.order("abe", "roll", Pan("tin", (3, 1)), 1, 7)
        bench.drop("abe")
        bench.order("abe", "roll", Pan("tin", (3, 1)), 1, 7)
        self.assertEqual(bench.lacking(), [(7, "milk", (1, 1)), (7, "wheat", (1, 1))])

    def test_told_lists(self):
        bench = Bench(book())
        bench.order("abe", "roll", TIN, 1, 7)
        first, second = bench.orders(), bench.orders()
        first.clear()
        self.assertEqual(second, ["abe"])
        second.append("bob")
        self.assertEqual(bench.orders(), ["abe"])

    def test_drop_no_name(self):
        bench = Bench(book())
        bench.order("abe", "roll", TIN, 1, 7)
        for thing in [*odd_things(), *NO_NAMES, "bob", "roll", "rye", "tin"]:
            self.assertIs(self.refused(bench, NoName, bench.drop, thing).who, thing)
            self.no_name(thing, bench.drop, name=thing)
        bench.drop("abe")
        self.no_name("abe", bench.drop, "abe")


class TestNoOrder(Benches):
    def test_name(self):
        bench = Bench(book())
        bench.order("bob", "roll", TIN, 1, 7)
        for name in [*odd_things(), *NO_NAMES, "bob"]:
            self.no_order("name", bench, name, "roll", TIN, 1, 7)
            self.no_order("name", bench, name, name, name, name, name)
            self.no_order("name", bench, hour=-1, count=0, pan=None, dough="oil", name=name)

    def test_dough(self):
        bench = Bench(book())
        for dough in [*odd_things(), *NO_DOUGHS]:
            self.no_order("dough", bench, "abe", dough, TIN, 1, 7)
            self.no_order("dough", bench, "abe", dough, dough, dough, dough)
            self.no_order("dough", bench, hour=-1, count=0, pan=None, dough=dough, name="abe")

    def test_pan(self):
        bench = Bench(book())
        for pan in [*odd_things(), *NO_PANS]:
            self.no_order("pan", bench, "abe", "roll", pan, 1, 7)
            self.no_order("pan", bench, "abe", "roll", pan, pan, pan)
            self.no_order("pan", bench, hour=-1, count=0, pan=pan, dough="loaf", name="abe")

    def test_count(self):
        bench = Bench(book())
        things = [thing for thing in odd_things() if type(thing) is not int or not 1 <= thing <= 999]
        for count in [*things, *NO_COUNTS]:
            self.no_order("count", bench, "abe", "roll", TIN, count, 7)
            self.no_order("count", bench, "abe", "loaf", TIN, count, 0)
            self.no_order("count", bench, hour=None, count=count, pan=TIN, dough="loaf", name="abe")

    def test_no_hour(self):
        bench = Bench(book())
        things = [thing for thing in odd_things() if type(thing) is not int or not 0 <= thing <= 9999]
        for hour in [*things, *NO_HOURS]:
            self.refused(bench, NoHour, bench.order, "abe", "roll", TIN, 1, hour)
            self.refused(bench, NoHour, bench.order, "abe", "loaf", TIN, 999, hour)
            self.refused(bench, NoHour, bench.order, hour=hour, count=1, pan=TIN, dough="loaf", name="abe")

    def test_a_refused_name_is_free(self):
        bench = Bench(book())
        self.late(1, bench, "abe", "sour", TIN, 1, 11)
        bench.order("abe", "sour", TIN, 1, 12)
        self.assertEqual(bench.orders(), ["abe"])


class TestLate(Benches):
    def test_by_its_own_lead(self):
        bench = Bench(book())
        for hour in range(12):
            self.late(12 - hour, bench, "abe", "sour", TIN, 1, hour)
        bench.order("abe", "sour", TIN, 1, 12)
        self.assertEqual(bench.tasks(), [(0, "sour", (3, 2))])

    def test_by_leads_of_doughs_within_doughs(self):
        bench = Bench(book())
        # loaf 2, sponge 5, sour 12
        for hour in [0, 1, 2, 7, 14, 18]:
            self.late(19 - hour, bench, "abe", "loaf", TIN, 1, hour)
        bench.order("abe", "loaf", TIN, 1, 19)
        self.assertEqual(bench.tasks()[0][:2], (0, "sour"))

    def test_an_inner_one_alone_is_late(self):
        made = [Dough("in", [("rye", (1, 1))], 9), Dough("out", [("rye", (1, 1)), ("in", (1, 1))], 0)]
        bench = Bench(Book([Stuff("rye")], made))
        self.late(9, bench, "abe", "out", TIN, 1, 0)
        self.late(1, bench, "abe", "out", TIN, 1, 8)
        bench.order("abe", "out", TIN, 1, 9)

    def test_the_longest_way_and_not_the_last(self):
        made = [
            Dough("a", [("rye", (1, 1))], 1), Dough("b", [("rye", (1, 1))], 99), Dough("c", [("a", (1, 1)), ("b", (1, 1)), ("rye", (1, 1))], 7),
            Dough("d", [("b", (1, 1)), ("c", (1, 1)), ("a", (1, 1))], 10),
        ]
        bench = Bench(Book([Stuff("rye")], made))
        self.late(106, bench, "abe", "c", TIN, 1, 0)
        self.late(111, bench, "abe", "d", TIN, 1, 5)
        bench.order("abe", "d", TIN, 1, 116)

    def test_by_chance(self):
        for one in some_books():
            bench = Bench(one)
            for name in one.doughs():
                longest = max(sums_of_leads(one, name))
                if longest:
                    self.late(longest, bench, "abe", name, TIN, 1, 0)
                    self.late(1, bench, "abe", name, TIN, 1, longest - 1)
                bench.order("abe", name, TIN, 1, longest)
                self.assertEqual(bench.tasks()[0][0], 0)
                bench.drop("abe")

    def test_of_another_book(self):
        bench = Bench(other_book())
        self.late(2, bench, "abe", "loaf", TIN, 1, 0)
        bench.order("abe", "loaf", TIN, 1, 2)


def sums_of_leads(one, name):
    """The leads added up, on each way into a dough."""
    inner = [sums_of_leads(one, thing) for thing, _ in one.dough(name).rows() if thing in one.doughs()]
    return [one.dough(name).lead() + more for way in [[0], *inner] for more in way]


if __name__ == "__main__":
    unittest.main()
