"""Tasks, what is used, what lacks, and the most loaves: [23], [24], and of [2], [3] and [4] what is told of them."""

import unittest
from fractions import Fraction
from random import Random

from breads import book, number, pair, reckoned, some_book, some_fraction
from loafshares.bench import Bench
from loafshares.books import Book
from loafshares.doughs import Dough
from loafshares.errors import Lacking, Late, NoHour, NoOrder
from loafshares.fractions import is_fraction, times
from loafshares.pans import Pan, dough_for
from loafshares.stuffs import Stuff
from refusals import Refusals
from things import odd_things

TIN = Pan("tin", (3, 2), (1, 8))
ONE = Pan("one", (1, 1))
NO_DOUGHS = [None, "", "oil", "rye", "Loaf", "loaf ", ["loaf"], ("loaf",), {"loaf"}, b"loaf", 1]
NO_PANS = [None, "tin", 1, (3, 2), ("tin", (3, 2), (1, 8)), ["tin"], repr(TIN), Pan, Stuff("tin"), book()]
NO_HOURS = [-1, 10000, 10 ** 20, True, False, None, "1", (1, 1), [1], ""]


def small():
    """Mash is wanted by dough and by bread, at hours that fall together or not."""
    return Book([Stuff("rye"), Stuff("oil")], [
        Dough("bread", [("mash", (1, 1)), ("base", (2, 1)), ("rye", (1, 1))], 3),
        Dough("base", [("mash", (1, 1)), ("oil", (1, 1))], 5),
        Dough("mash", [("rye", (1, 1)), ("oil", (1, 1))], 10),
        Dough("plain", [("rye", (1, 1))]),
    ])


def of(weights):
    """A dict of numbers by hours and names as a told list."""
    return [(hour, name, pair(weights[hour, name])) for hour, name in sorted(weights)]


def reckoned_plan(one, orders):
    """What is mixed and what is used, way by way, of orders (dough, weight, hour)."""
    mixed, used = {}, {}

    def want(dough, weight, hour):
        start = hour - one.dough(dough).lead()
        mixed[start, dough] = mixed.get((start, dough), 0) + weight
        total = sum(number(parts) for _, parts in one.dough(dough).rows())
        for thing, parts in one.dough(dough).rows():
            much = number(parts) / total * weight
            if thing in one.doughs():
                want(thing, much, start)
            else:
                used[start, thing] = used.get((start, thing), 0) + much

    for dough, weight, hour in orders:
        want(dough, weight, hour)
    return mixed, used


def reckoned_lacking(used, brought):
    """Hour by hour, as it's told; brought are tuples (hour, stuff, number)."""
    hours = sorted({hour for hour, _ in used} | {hour for hour, _, _ in brought})
    lacks = {}
    for hour in hours:
        for stuff in sorted({stuff for _, stuff in used}):
            rest = sum(much for (at, name), much in used.items() if name == stuff and at <= hour)
            rest -= sum(much for at, name, much in brought if name == stuff and at <= hour)
            rest -= sum(much for (at, name), much in lacks.items() if name == stuff)
            if rest > 0:
                lacks[hour, stuff] = rest
    return of(lacks)


class Chance:
    """A bench made by chance, with what it was told."""

    def __init__(self, seed):
        self.random = Random(seed)
        self.book = some_book(seed, 5, 5)
        self.bench = Bench(self.book)
        self.orders, self.brought = [], []
        for name in "abcdefgh"[:self.random.randint(0, 8)]:
            pan, count = Pan("tin", some_fraction(self.random, 1)), self.random.randint(1, 20)
            dough, hour = self.some_dough(), self.some_hour()
            self.bench.order(name, dough, pan, count, hour)
            self.orders.append((dough, number(pan.holds()) * count, hour))
        for _ in range(self.random.randint(0, 20)):
            self.bring(self.random.randint(0, 700), self.random.choice(self.book.stuffs()), some_fraction(self.random))

    def some_dough(self):
        return self.random.choice(self.book.doughs())

    def some_hour(self):
        return 600 + self.random.randint(0, 9) * 11

    def bring(self, hour, stuff, weight):
        self.bench.bring(hour, stuff, weight)
        self.brought.append((hour, stuff, number(weight)))


class TestTasks(unittest.TestCase):
    def test_one_order(self):
        bench = Bench(book())
        bench.order("abe", "sour", TIN, 4, 20)
        self.assertEqual(bench.tasks(), [(8, "sour", (6, 1))])
        self.assertEqual(bench.used(), [(8, "rye", (3, 1)), (8, "water", (3, 1))])

    def test_the_loss_of_a_pan_means_nothing(self):
        bench = Bench(book())
        bench.order("abe", "sour", Pan("tin", (3, 2)), 4, 20)
        self.assertEqual(bench.tasks(), [(8, "sour", (6, 1))])

    def test_doughs_within_doughs_with_leads(self):
        bench = Bench(book())
        bench.order("abe", "loaf", Pan("tin", (117, 10)), 2, 30)
        # loaf at 28, sponge at 23, sour for loaf at 16 and for sponge at 11
        self.assertEqual(bench.tasks(), [
            (11, "sour", (3, 4)), (16, "sour", (1, 1)), (23, "sponge", (6, 1)), (28, "loaf", (117, 5)),
        ])
        self.assertEqual(bench.used(), [
            (11, "rye", (3, 8)), (11, "water", (3, 8)), (16, "rye", (1, 2)), (16, "water", (1, 2)),
            (23, "water", (9, 4)), (23, "wheat", (3, 1)), (28, "salt", (2, 5)), (28, "water", (4, 1)), (28, "wheat", (12, 1)),
        ])

    def test_two_orders_that_want_one_dough_at_one_hour(self):
        bench = Bench(small())
        bench.order("abe", "bread", Pan("tin", (4, 1)), 1, 20)
        bench.order("bob", "mash", ONE, 3, 17)
        # mash at 7 for bread and for bob, and at 2 for base
        self.assertEqual(bench.tasks(), [(2, "mash", (1, 1)), (7, "mash", (4, 1)), (12, "base", (2, 1)), (17, "bread", (4, 1))])
        self.assertEqual(bench.used(), [
            (2, "oil", (1, 2)), (2, "rye", (1, 2)), (7, "oil", (2, 1)), (7, "rye", (2, 1)), (12, "oil", (1, 1)), (17, "rye", (1, 1)),
        ])
        bench.drop("bob")
        self.assertEqual(bench.tasks()[1], (7, "mash", (1, 1)))

    def test_two_ways_to_one_dough_at_one_hour(self):
        made = [Dough("in", [("rye", (1, 1))], 4), Dough("by", [("in", (1, 1))], 0), Dough("out", [("by", (1, 1)), ("in", (3, 1))], 2)]
        bench = Bench(Book([Stuff("rye")], made))
        bench.order("abe", "out", ONE, 4, 6)
        self.assertEqual(bench.tasks(), [(0, "in", (4, 1)), (4, "by", (1, 1)), (4, "out", (4, 1))])
        self.assertEqual(bench.used(), [(0, "rye", (4, 1))])

    def test_sorted_by_hour_and_then_by_name(self):
        bench = Bench(book())
        for name, dough, hour in [("a", "soak", 10), ("b", "roll", 9), ("c", "brine", 9), ("d", "roll", 100)]:
            bench.order(name, dough, ONE, 3, hour)
        self.assertEqual(bench.tasks(), [
            (9, "brine", (5, 1)), (9, "roll", (3, 1)), (9, "soak", (3, 1)), (100, "roll", (3, 1)),
        ])
        self.assertEqual([row[:2] for row in bench.used()], [
            (9, "milk"), (9, "salt"), (9, "seed"), (9, "water"), (9, "wheat"), (100, "milk"), (100, "wheat"),
        ])

    def test_used_is_what_the_tasks_rows_of_stuffs_have(self):
        for seed in range(60):
            chance = Chance(seed)
            wanted = {}
            for hour, dough, weight in chance.bench.tasks():
                rows = chance.book.dough(dough).rows()
                total = sum(number(parts) for _, parts in rows)
                for thing, parts in rows:
                    if thing in chance.book.stuffs():
                        wanted[hour, thing] = wanted.get((hour, thing), 0) + number(parts) / total * number(weight)
            self.assertEqual(chance.bench.used(), of(wanted))

    def test_by_chance(self):
        for seed in range(120):
            chance = Chance(seed)
            mixed, used = reckoned_plan(chance.book, chance.orders)
            self.assertEqual(chance.bench.tasks(), of(mixed))
            self.assertEqual(chance.bench.used(), of(used))
            self.assertTrue(all(is_fraction(weight) for _, _, weight in [*chance.bench.tasks(), *chance.bench.used()]))

    def test_all_that_is_used_is_what_the_orders_come_to(self):
        for seed in range(40):
            chance = Chance(seed)
            wanted, told = {}, {}
            for dough, weight, _ in chance.orders:
                for stuff, share in reckoned(chance.book, dough).items():
                    wanted[stuff] = wanted.get(stuff, 0) + share * weight
            for _, stuff, weight in chance.bench.used():
                told[stuff] = told.get(stuff, 0) + number(weight)
            self.assertEqual(told, wanted)

    def test_told_lists(self):
        bench = Bench(book())
        bench.order("abe", "loaf", TIN, 2, 30)
        bench.bring(0, "rye", (1, 9))
        for call in [bench.tasks, bench.used, bench.lacking]:
            first, second, wanted = call(), call(), call()
            self.assertIs(type(first), list)
            self.assertTrue(all(type(row) is tuple for row in first))
            first.clear()
            self.assertEqual(second, wanted)
            second.append(None)
            self.assertEqual(call(), wanted)
            third = call()
            bench.order("bob", "loaf", TIN, 2, 31)
            self.assertEqual(third, wanted)
            bench.drop("bob")

    def test_many_hours(self):
        names = ["d" + letter for letter in "abcdefghijk"]
        made = []
        for at, name in enumerate(names):
            rows = [(thing, (1, 1)) for thing in names[max(0, at - 7):at]] + [("rye", (1, 1))]
            made.append(Dough(name, rows, 2 ** at % 97))
        bench = Bench(Book([Stuff("rye")], made))
        for at, name in enumerate("abcdefgh"):
            bench.order(name, "dk", TIN, 999, 9000 + at)
        self.assertEqual(sum(number(weight) for _, _, weight in bench.used()), Fraction(3, 2) * 999 * 8)
        self.assertEqual(bench.lacking(), bench.used())


class TestLacking(unittest.TestCase):
    def bench(self):
        """3 of rye are used at 8 and 1 at 20."""
        bench = Bench(small())
        bench.order("abe", "plain", ONE, 3, 8)
        bench.order("bob", "plain", ONE, 1, 20)
        return bench

    def test_nothing_brought(self):
        self.assertEqual(self.bench().lacking(), [(8, "rye", (3, 1)), (20, "rye", (1, 1))])

    def test_nothing_ordered(self):
        bench = Bench(small())
        bench.bring(0, "rye", (1, 1))
        self.assertEqual(bench.lacking(), [])

    def test_some_brought_ahead_at_the_hour_and_too_late(self):
        for hour, wanted in [(0, (1, 1)), (7, (1, 1)), (8, (1, 1))]:
            bench = self.bench()
            bench.bring(hour, "rye", (2, 1))
            self.assertEqual(bench.lacking(), [(8, "rye", wanted), (20, "rye", (1, 1))])
        # too late for 8: what lacked there is not told again, and what is brought is there for 20
        for hour in [9, 19, 20]:
            bench = self.bench()
            bench.bring(hour, "rye", (2, 1))
            self.assertEqual(bench.lacking(), [(8, "rye", (3, 1))])
        bench = self.bench()
        bench.bring(21, "rye", (9, 1))
        self.assertEqual(bench.lacking(), [(8, "rye", (3, 1)), (20, "rye", (1, 1))])

    def test_just_enough_and_more(self):
        for weight in [(3, 1), (7, 2), (4, 1), (9, 1)]:
            bench = self.bench()
            bench.bring(8, "rye", weight)
            bench.bring(20, "rye", (1, 1))
            self.assertEqual(bench.lacking(), [])
        bench = self.bench()
        bench.bring(3, "rye", (7, 2))
        self.assertEqual(bench.lacking(), [(20, "rye", (1, 2))])

    def test_another_stuff_does_not_help(self):
        bench = self.bench()
        bench.bring(0, "oil", (99, 1))
        self.assertEqual(bench.lacking(), [(8, "rye", (3, 1)), (20, "rye", (1, 1))])

    def test_sorted_by_hour_and_then_by_name(self):
        bench = Bench(book())
        for name, dough, hour in [("a", "soak", 10), ("b", "roll", 9), ("c", "brine", 9), ("d", "roll", 100)]:
            bench.order(name, dough, ONE, 3, hour)
        bench.bring(8, "salt", (9, 1))
        self.assertEqual([row[:2] for row in bench.lacking()], [
            (9, "milk"), (9, "seed"), (9, "water"), (9, "wheat"), (100, "milk"), (100, "wheat"),
        ])

    def test_by_chance(self):
        lacked = 0
        for seed in range(120):
            chance = Chance(seed)
            told = chance.bench.lacking()
            used = reckoned_plan(chance.book, chance.orders)[1]
            self.assertEqual(told, reckoned_lacking(used, chance.brought))
            self.assertTrue(all(is_fraction(weight) and weight[0] > 0 for _, _, weight in told))
            lacked += len(told)
        self.assertGreater(lacked, 300)

    def test_with_what_lacks_brought_nothing_lacks(self):
        for seed in range(80):
            chance = Chance(seed)
            for hour, stuff, weight in chance.bench.lacking():
                chance.bring(hour, stuff, weight)
            self.assertEqual(chance.bench.lacking(), [])

    def test_with_less_something_lacks(self):
        for seed in range(80):
            chance = Chance(seed)
            told = chance.bench.lacking()
            if not told:
                continue
            less = chance.random.randrange(len(told))
            for at, (hour, stuff, weight) in enumerate(told):
                if at != less:
                    chance.bring(hour, stuff, weight)
                elif chance.random.random() < 0.5:
                    chance.bring(hour, stuff, times(weight, (999, 1000)))
                elif hour < 9999:
                    chance.bring(hour + 1, stuff, weight)
            self.assertEqual([row[:2] for row in chance.bench.lacking()][:1], [told[less][:2]])


class TestMost(Refusals):
    def bench(self):
        bench = Bench(small())
        bench.bring(5, "rye", (10, 1))
        return bench

    def test_none(self):
        self.assertEqual(Bench(small()).most("plain", ONE, 8), (0, 8, "rye"))
        self.assertEqual(self.bench().most("plain", ONE, 4), (0, 4, "rye"))
        self.assertEqual(self.bench().most("plain", Pan("tin", (21, 2)), 5), (0, 5, "rye"))
        # mash wants oil and rye at 0
        self.assertEqual(Bench(small()).most("mash", ONE, 10), (0, 0, "oil"))
        self.assertEqual(self.bench().most("mash", ONE, 20), (0, 10, "oil"))

    def test_some(self):
        self.assertEqual(self.bench().most("plain", ONE, 5), (10, 5, "rye"))
        self.assertEqual(self.bench().most(hour=9999, pan=Pan("tin", (3, 1)), dough="plain"), (3, 9999, "rye"))
        bench = self.bench()
        bench.order("abe", "plain", ONE, 4, 7)
        self.assertEqual(bench.most("plain", ONE, 9), (6, 9, "rye"))

    def test_above_999(self):
        bench = self.bench()
        bench.bring(0, "rye", (999999999999, 1))
        self.assertEqual(bench.most("plain", ONE, 5), (1000000000009, 5, "rye"))
        self.assertEqual(bench.most("plain", ONE, 4), (999999999999, 4, "rye"))
        self.assertEqual(bench.most("plain", Pan("tin", (1, 999999999999)), 4), (999999999999 ** 2, 4, "rye"))

    def test_an_hour_behind_the_hour_asked(self):
        bench = self.bench()
        bench.order("abe", "plain", ONE, 8, 30)
        self.assertEqual(bench.most("plain", ONE, 6), (2, 30, "rye"))
        self.assertEqual(bench.most("plain", ONE, 40), (2, 40, "rye"))
        bench.bring(30, "rye", (5, 1))
        self.assertEqual(bench.most("plain", ONE, 6), (7, 30, "rye"))
        bench.bring(30, "rye", (5, 1))
        self.assertEqual(bench.most("plain", ONE, 6), (10, 6, "rye"))

    def test_an_hour_between(self):
        bench = self.bench()
        bench.order("abe", "plain", ONE, 8, 30)
        bench.bring(31, "rye", (50, 1))
        bench.order("bob", "plain", ONE, 40, 50)
        self.assertEqual(bench.most("plain", ONE, 6), (2, 30, "rye"))
        self.assertEqual(bench.most("plain", ONE, 35), (12, 50, "rye"))
        self.assertEqual(bench.most("plain", ONE, 60), (12, 60, "rye"))

    def test_of_several_stuffs_at_one_hour_the_first_by_name(self):
        bench = Bench(small())
        for stuff in ["rye", "oil"]:
            bench.bring(0, stuff, (2, 1))
        self.assertEqual(bench.most("mash", ONE, 10), (4, 0, "oil"))
        bench.bring(0, "oil", (1, 4))
        self.assertEqual(bench.most("mash", ONE, 10), (4, 0, "oil"))
        bench.bring(0, "oil", (1, 4))
        self.assertEqual(bench.most("mash", ONE, 10), (4, 0, "rye"))

    def test_of_doughs_within_doughs(self):
        bench = Bench(small())
        # for one bread of 4: at 2 and 7 a half of oil and of rye, at 12 1 of oil, at 17 1 of rye
        bread = Pan("tin", (4, 1))
        bench.bring(0, "rye", (20, 1))
        bench.bring(0, "oil", (5, 1))
        self.assertEqual(bench.most("bread", bread, 20), (2, 12, "oil"))
        bench.bring(12, "oil", (100, 1))
        self.assertEqual(bench.most("bread", bread, 20), (5, 7, "oil"))
        bench.bring(3, "oil", (100, 1))
        self.assertEqual(bench.most("bread", bread, 20), (10, 2, "oil"))
        bench.bring(2, "oil", (100, 1))
        self.assertEqual(bench.most("bread", bread, 20), (10, 17, "rye"))

    def test_it_changes_nothing(self):
        bench = self.bench()
        bench.order("abe", "plain", ONE, 4, 7)
        ahead = (bench.orders(), bench.tasks(), bench.used(), bench.lacking())
        self.assertEqual([bench.most("plain", ONE, 9) for _ in range(3)], [(6, 9, "rye")] * 3)
        self.assertEqual((bench.orders(), bench.tasks(), bench.used(), bench.lacking()), ahead)

    def test_kinds(self):
        told = self.bench().most("plain", ONE, 5)
        self.assertEqual([type(told), *[type(part) for part in told]], [tuple, int, int, str])

    def test_by_chance(self):
        counts = []
        for seed in range(150):
            chance = Chance(seed)
            for hour, stuff, weight in chance.bench.lacking():
                chance.bring(hour, stuff, weight)
            for stuff in chance.book.stuffs():
                if chance.random.random() < 0.9:
                    much = chance.random.randint(1, 10 ** chance.random.randint(1, 5))
                    chance.bring(chance.random.randint(0, 300), stuff, (much, 1))
            dough, hour = chance.some_dough(), chance.some_hour()
            pan = Pan("tin", some_fraction(chance.random, 1))
            count, when, stuff = chance.bench.most(dough, pan, hour)
            counts.append(count)
            self.assertEqual(self.lacking_with(chance, dough, pan, count, hour), [])
            self.assertEqual(self.lacking_with(chance, dough, pan, count + 1, hour)[0][:2], (when, stuff))
        for low, high in [(0, 0), (1, 9), (10, 999), (1000, 10 ** 9)]:
            self.assertTrue(any(low <= count <= high for count in counts), low)

    def lacking_with(self, chance, dough, pan, count, hour):
        """What lacks with so many loaves besides, reckoned way by way."""
        orders = chance.orders + [(dough, number(pan.holds()) * count, hour)] * (count > 0)
        return reckoned_lacking(reckoned_plan(chance.book, orders)[1], chance.brought)

    def test_orders_of_so_many_loaves_leave_nothing_lacking(self):
        bench = self.bench()
        bench.bring(0, "oil", (3000, 7))
        bench.bring(1, "rye", (5000, 7))
        bench.order("abe", "base", TIN, 5, 25)
        pan = Pan("tin", (1, 3))
        count, hour, stuff = bench.most("bread", pan, 30)
        self.assertGreater(count, 999)
        left, names = count, iter("cdefghijk")
        while left:
            bench.order(next(names), "bread", pan, min(left, 999), 30)
            left -= min(left, 999)
        self.assertEqual(bench.lacking(), [])
        self.assertEqual(bench.most("bread", pan, 30), (0, hour, stuff))
        bench.order("z", "bread", pan, 1, 30)
        self.assertEqual(bench.lacking()[0][:2], (hour, stuff))
        with self.assertRaises(Lacking):
            bench.most("bread", pan, 30)

    def test_dough_for_the_count(self):
        bench = self.bench()
        count, hour, stuff = bench.most("plain", TIN, 5)
        self.assertEqual((count, dough_for(count, TIN)), (6, (9, 1)))


class TestMostRefused(Refusals):
    def refused(self, bench, kind, *given, **named):
        ahead = (bench.orders(), bench.tasks(), bench.lacking())
        with self.assertRaises(kind) as caught:
            bench.most(*given, **named)
        self.assertEqual((bench.orders(), bench.tasks(), bench.lacking()), ahead)
        return caught.exception

    def benches(self):
        """One where nothing lacks, and one where something does."""
        lacking = Bench(book())
        lacking.order("abe", "roll", TIN, 1, 3)
        return [Bench(book()), lacking]

    def test_no_dough(self):
        for bench in self.benches():
            for thing in [*odd_things(), *NO_DOUGHS]:
                self.assertEqual(self.refused(bench, NoOrder, thing, TIN, 3).field, "dough")
                self.assertEqual(self.refused(bench, NoOrder, thing, thing, thing).field, "dough")
                self.assertEqual(self.refused(bench, NoOrder, hour=-1, pan=None, dough=thing).field, "dough")

    def test_no_pan(self):
        for bench in self.benches():
            for thing in [*odd_things(), *NO_PANS]:
                self.assertEqual(self.refused(bench, NoOrder, "roll", thing, 3).field, "pan")
                self.assertEqual(self.refused(bench, NoOrder, "roll", thing, thing).field, "pan")
                self.assertEqual(self.refused(bench, NoOrder, hour=-1, pan=thing, dough="loaf").field, "pan")

    def test_no_hour(self):
        things = [thing for thing in odd_things() if type(thing) is not int or not 0 <= thing <= 9999]
        for bench in self.benches():
            for thing in [*things, *NO_HOURS]:
                self.refused(bench, NoHour, "loaf", TIN, thing)
                self.refused(bench, NoHour, hour=thing, pan=TIN, dough="roll")

    def test_late_ahead_of_lacking(self):
        for bench in self.benches():
            for hour in [0, 7, 18]:
                self.assertEqual(self.refused(bench, Late, "loaf", TIN, hour).by, 19 - hour)

    def test_lacking(self):
        bench = self.benches()[1]
        for dough, hour in [("roll", 0), ("roll", 3), ("roll", 9999), ("loaf", 19), ("brine", 5)]:
            self.refused(bench, Lacking, dough, TIN, hour)
        bench.bring(3, "wheat", (1, 1))
        self.refused(bench, Lacking, "roll", TIN, 3)
        bench.bring(3, "milk", (1, 2))
        self.assertEqual(bench.most("roll", TIN, 3), (0, 3, "milk"))
        bench.drop("abe")
        self.assertEqual(bench.most("roll", TIN, 3), (1, 3, "milk"))


if __name__ == "__main__":
    unittest.main()
