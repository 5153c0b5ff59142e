"""Pans: [16], and of [2], [3] and [4] what is told of them."""

import inspect
import unittest
from random import Random

from breads import book, doughs, number, pair, some_books, some_fraction
from loafshares.books import Book
from loafshares.doughs import Dough
from loafshares.errors import NoCount, NoPan, NoWeight
from loafshares.fractions import is_fraction, minus, over, times
from loafshares.opened import opened
from loafshares.pans import Pan, dough_for, loaves, pan_for, scaled
from loafshares.stuffs import Stuff
from things import Alike, odd_things

TIN = ("tin", (3, 2), (1, 8))
NAMELESS = ["", "Tin", "tin ", " tin", "abcdefghijk", "tin\n", "t1n", None, b"tin", 1, ("tin",), ["tin"], True]
NO_FRACTIONS = [
    (2, 4), (0, 2), (1, 0), (1, -2), (True, 1), (1, True), [1, 2], (1,), (1, 2, 3), ("1", "2"), "1/2", "", 1, 0, True,
]
WEIGHTLESS = [*NO_FRACTIONS, (0, 1), (-1, 1), (-3, 2), None]
NO_LOSSES = [*NO_FRACTIONS, (1, 1), (2, 1), (-1, 1), (-1, 9), (9, 8)]


def tin():
    return Pan(*TIN)


def told(pan):
    return (pan.name(), pan.holds(), pan.loss())


class Pans(unittest.TestCase):
    def no_pan(self, field, call, *given, **named):
        with self.assertRaises(NoPan) as caught:
            call(*given, **named)
        self.assertEqual(caught.exception.field, field)

    def no_weight(self, call, *given, **named):
        with self.assertRaises(NoWeight):
            call(*given, **named)

    def no_count(self, count):
        with self.assertRaises(NoCount):
            dough_for(count, tin())
        with self.assertRaises(NoCount):
            dough_for(pan=tin(), count=count)


class TestMade(unittest.TestCase):
    def test_interface(self):
        self.assertEqual(Pan.__module__, "loafshares.pans")
        self.assertEqual(list(inspect.signature(Pan).parameters), ["name", "holds", "loss"])
        self.assertIsNone(inspect.signature(Pan).parameters["loss"].default)
        for method in ["name", "holds", "loss", "baked", "__eq__", "__repr__"]:
            self.assertIn(method, vars(Pan))
        wanted = {loaves: ["weight", "pan"], dough_for: ["count", "pan"], pan_for: ["name", "baked", "loss"],
                  scaled: ["dough", "weight"]}
        for function, names in wanted.items():
            self.assertEqual(list(inspect.signature(function).parameters), names)
            self.assertEqual(function.__module__, "loafshares.pans")
        self.assertIsNone(inspect.signature(pan_for).parameters["loss"].default)

    def test_by_places_and_by_names(self):
        for pan in [tin(), Pan(name="tin", holds=(3, 2), loss=(1, 8)), Pan(loss=(1, 8), holds=(3, 2), name="tin")]:
            self.assertEqual(told(pan), TIN)

    def test_the_loss_left_out_none_and_0(self):
        for pan in [Pan("tin", (3, 2)), Pan("tin", (3, 2), None), Pan("tin", (3, 2), (0, 1)), Pan("tin", (3, 2), loss=None)]:
            self.assertEqual(told(pan), ("tin", (3, 2), (0, 1)))
            self.assertEqual(pan.baked(), (3, 2))
            self.assertEqual(pan, Pan("tin", (3, 2)))

    def test_edges(self):
        for given in [
            ("a", (1, 1), (999999999998, 999999999999)), ("abcdefghij", (1, 999999999999), (1, 999999999999)),
            ("z", (999999999999, 1), (1, 2)), ("tin", times((999999999999, 7), (999999999989, 11)), (1, 3)),
        ]:
            self.assertEqual(told(Pan(*given)), given)

    def test_baked(self):
        self.assertEqual(tin().baked(), (21, 16))
        self.assertEqual(Pan("tin", (1, 1), (999999999998, 999999999999)).baked(), (1, 999999999999))
        self.assertEqual(Pan("tin", (8, 1), (1, 4)).baked(), (6, 1))

    def test_repr(self):
        self.assertEqual(repr(tin()), "Pan('tin', (3, 2), (1, 8))")
        self.assertEqual(repr(Pan("tin", (3, 1))), "Pan('tin', (3, 1), (0, 1))")
        self.assertEqual(eval(repr(tin())), tin())

    def test_equality(self):
        self.assertTrue(tin() == tin())
        self.assertFalse(tin() != tin())
        for other in [Pan("tun", (3, 2), (1, 8)), Pan("tin", (5, 2), (1, 8)), Pan("tin", (3, 2), (1, 9)), Pan("tin", (3, 2))]:
            self.assertFalse(tin() == other)
            self.assertTrue(tin() != other)
        things = [thing for thing in odd_things() if thing.__class__ is not Alike]
        for thing in [*things, None, TIN, list(TIN), "tin", repr(tin()), Stuff("tin", (3, 4)), Dough("tin", [("a", (3, 2))])]:
            self.assertFalse(tin() == thing)
            self.assertTrue(tin() != thing)

    def test_of_two_neither_knows_of_the_other(self):
        one, other = tin(), Pan("tun", (7, 1))
        self.assertEqual((told(one), told(other)), (TIN, ("tun", (7, 1), (0, 1))))
        self.assertEqual([told(one) for _ in range(3)], [TIN] * 3)


class TestNoPan(Pans):
    def test_name(self):
        for name in [*odd_things(), *NAMELESS]:
            self.no_pan("name", Pan, name, (3, 2), (1, 8))
            self.no_pan("name", Pan, name, (0, 1), (1, 1))
            self.no_pan("name", Pan, name, None)
            self.no_pan("name", Pan, loss=name, holds=name, name=name)

    def test_holds(self):
        for holds in [*odd_things(), *WEIGHTLESS]:
            self.no_pan("holds", Pan, "tin", holds)
            self.no_pan("holds", Pan, "tin", holds, (1, 1))
            self.no_pan("holds", Pan, name="tin", holds=holds, loss=holds)

    def test_loss(self):
        for loss in [*odd_things(), *NO_LOSSES]:
            self.no_pan("loss", Pan, "tin", (3, 2), loss)
            self.no_pan("loss", Pan, loss=loss, holds=(3, 2), name="tin")

    def test_what_was_handed_in_stays(self):
        name, holds, loss = ["tin"], [3, [2]], {1: [8]}
        self.no_pan("name", Pan, name, holds, loss)
        self.no_pan("holds", Pan, "tin", holds, loss)
        self.no_pan("loss", Pan, "tin", (3, 2), loss)
        self.assertEqual((name, holds, loss), (["tin"], [3, [2]], {1: [8]}))


class TestLoaves(Pans):
    def test_less_than_a_pan(self):
        self.assertEqual(loaves((1, 1), tin()), (0, (1, 1)))
        self.assertEqual(loaves((1, 999999999999), tin()), (0, (1, 999999999999)))

    def test_some_pans_just_so(self):
        self.assertEqual(loaves((3, 2), tin()), (1, (0, 1)))
        self.assertEqual(loaves((15, 1), tin()), (10, (0, 1)))

    def test_some_pans_and_a_rest(self):
        self.assertEqual(loaves((5, 3), tin()), (1, (1, 6)))
        self.assertEqual(loaves(pan=tin(), weight=(10, 1)), (6, (1, 1)))
        self.assertEqual(loaves((999999999999, 1), Pan("tin", (2, 1), (1, 2))), (499999999999, (1, 1)))

    def test_kinds(self):
        answer = loaves((5, 3), tin())
        self.assertEqual([type(answer), type(answer[0]), type(answer[1])], [tuple, int, tuple])

    def test_by_chance(self):
        random = Random(11)
        for _ in range(300):
            weight, pan = some_fraction(random, 6), Pan("tin", some_fraction(random, 4))
            count, rest = loaves(weight, pan)
            self.assertEqual((count, rest), (number(weight) // number(pan.holds()), pair(number(weight) % number(pan.holds()))))
            self.assertTrue(is_fraction(rest))

    def test_no_weight(self):
        for weight in [*odd_things(), *WEIGHTLESS]:
            self.no_weight(loaves, weight, tin())
            self.no_weight(loaves, pan=tin(), weight=weight)


class TestDoughFor(Pans):
    def test_counts(self):
        self.assertEqual(dough_for(1, tin()), (3, 2))
        self.assertEqual(dough_for(4, tin()), (6, 1))
        self.assertEqual(dough_for(pan=tin(), count=999999999999), (2999999999997, 2))
        self.assertEqual(dough_for(10 ** 40, tin()), (15 * 10 ** 39, 1))

    def test_loaves_of_it_are_the_count_and_no_rest(self):
        random = Random(12)
        for _ in range(200):
            pan = Pan("tin", some_fraction(random, 6), None)
            count = random.randint(1, 10 ** random.randint(1, 12))
            self.assertEqual(loaves(dough_for(count, pan), pan), (count, (0, 1)))

    def test_no_count(self):
        things = [thing for thing in odd_things() if type(thing) is not int or thing < 1]
        for count in [*things, 0, -1, -(10 ** 20), True, False, "1", "", (1, 1), (2, 1), None, [1]]:
            self.no_count(count)


class TestPanFor(Pans):
    def test_pan_for(self):
        self.assertEqual(pan_for("tin", (21, 16), (1, 8)), tin())
        self.assertEqual(pan_for(loss=(1, 8), baked=(21, 16), name="tin"), tin())
        for pan in [pan_for("tin", (3, 2)), pan_for("tin", (3, 2), None), pan_for("tin", (3, 2), (0, 1))]:
            self.assertEqual(pan, Pan("tin", (3, 2)))

    def test_baked_is_what_was_handed_in(self):
        random = Random(13)
        for _ in range(200):
            baked, bottom = some_fraction(random, 12), random.randint(1, 10 ** 12 - 1)
            loss = pair(number((random.randint(0, bottom - 1), bottom)))
            pan = pan_for("tin", baked, loss)
            self.assertEqual((type(pan), pan.name(), pan.baked(), pan.loss()), (Pan, "tin", baked, loss))
            self.assertEqual(pan.holds(), over(baked, minus((1, 1), loss)))

    def test_of_a_pans_baked_it_is_that_pan(self):
        random = Random(14)
        for _ in range(100):
            pan = Pan("tin", some_fraction(random), pair(number((random.randint(0, 98), 99))))
            self.assertEqual(pan_for(pan.name(), pan.baked(), pan.loss()), pan)

    def test_no_pan(self):
        for name in [*odd_things(), *NAMELESS]:
            self.no_pan("name", pan_for, name, (1, 1))
            self.no_pan("name", pan_for, name, name, name)
            self.no_pan("name", pan_for, loss=(1, 1), baked=(0, 1), name=name)
        for baked in [*odd_things(), *WEIGHTLESS]:
            self.no_pan("holds", pan_for, "tin", baked)
            self.no_pan("holds", pan_for, "tin", baked, (1, 1))
            self.no_pan("holds", pan_for, "tin", baked=baked, loss=baked)
        for loss in [*odd_things(), *NO_LOSSES]:
            self.no_pan("loss", pan_for, "tin", (1, 1), loss)
            self.no_pan("loss", pan_for, loss=loss, baked=(1, 1), name="tin")


class TestScaled(Pans):
    def test_scaled(self):
        bun = Dough("bun", [("rye", (1, 1)), ("water", (1, 2)), ("salt", (1, 6))], 7)
        wanted = Dough("bun", [("rye", (3, 1)), ("water", (3, 2)), ("salt", (1, 2))], 7)
        self.assertEqual(scaled(bun, (5, 1)), wanted)
        self.assertEqual(scaled(weight=(5, 1), dough=bun), wanted)
        self.assertEqual(bun, Dough("bun", [("rye", (1, 1)), ("water", (1, 2)), ("salt", (1, 6))], 7))

    def test_what_stays(self):
        random = Random(15)
        for one in [book(), *some_books()]:
            for name in one.doughs():
                dough, weight = one.dough(name), some_fraction(random, 12)
                made = scaled(dough, weight)
                self.assertEqual((type(made), made.name(), made.lead(), made.total()), (Dough, name, dough.lead(), weight))
                total = dough.total()
                wanted = [(thing, over(parts, total)) for thing, parts in dough.rows()]
                self.assertEqual([(thing, over(parts, weight)) for thing, parts in made.rows()], wanted)
                self.assertEqual(scaled(made, total), dough)

    def test_its_book_comes_to_the_same(self):
        one = book()
        for dough in doughs():
            self.assertEqual(opened(one.put(scaled(dough, (7, 3))), "loaf"), opened(one, "loaf"))
        self.assertIsInstance(Book([Stuff("rye")], [scaled(Dough("a", [("rye", (9, 1))]), (1, 9))]), Book)

    def test_no_weight(self):
        for weight in [*odd_things(), *WEIGHTLESS]:
            self.no_weight(scaled, doughs()[0], weight)
            self.no_weight(scaled, weight=weight, dough=doughs()[0])


if __name__ == "__main__":
    unittest.main()
