"""Shares to the flour: [11], and of [2], [3] and [4] what is told of them."""

import inspect
import unittest
from fractions import Fraction

from breads import book, doughs, other_book, pair, reckoned, reckoned_measure, some_books, stuffs
from loafshares.books import Book
from loafshares.doughs import Dough
from loafshares.errors import NoDough, NoFeel, NoFlour, Ring, Twice, Uneven
from loafshares.fractions import is_fraction
from loafshares.opened import measured, opened
from loafshares.shares import by_shares, feel, row_shares, shares
from loafshares.stuffs import Stuff
from refusals import Refusals
from things import odd_things

FLOURED = ["loaf", "sour", "sponge", "roll"]
NAMELESS = [None, "", "oil", "rye", "Loaf", "loaf ", ["loaf"], ("loaf",), {"loaf"}, b"loaf"]
BUN = [("wheat", (3, 4)), ("sour", (1, 2)), ("water", (3, 5)), ("salt", (1, 50))]


class TestShares(unittest.TestCase):
    def test_interface(self):
        wanted = {shares: ["book", "dough"], row_shares: ["book", "dough"], feel: ["book", "dough"],
                  by_shares: ["book", "name", "rows", "lead"]}
        for function, names in wanted.items():
            self.assertEqual(list(inspect.signature(function).parameters), names)
            self.assertEqual(function.__module__, "loafshares.shares")
        self.assertEqual(inspect.signature(by_shares).parameters["lead"].default, 0)

    def test_of_stuffs_alone(self):
        self.assertEqual(shares(book(), "sour"), {"rye": (1, 1), "water": (1, 1)})
        self.assertEqual(shares(book(), "roll"), {"milk": (1, 2), "wheat": (1, 1)})

    def test_of_doughs_within_doughs(self):
        self.assertEqual(shares(book(), "sponge"), {"wheat": (8, 9), "rye": (1, 9), "water": (7, 9)})
        wanted = {"wheat": (120, 127), "rye": (7, 127), "water": (57, 127), "salt": (16, 635)}
        self.assertEqual(shares(book(), "loaf"), wanted)

    def test_of_stuffs_that_are_flour_in_part(self):
        one = Book([Stuff("mix", flour=(3, 4), salt=(1, 50)), Stuff("water", water=(1, 1))],
                   [Dough("a", [("mix", (4, 1)), ("water", (2, 1))])])
        self.assertEqual(shares(one, "a"), {"mix": (4, 3), "water": (2, 3)})
        self.assertEqual(row_shares(one, "a"), [("mix", (4, 3)), ("water", (2, 3))])

    def test_by_names(self):
        self.assertEqual(shares(dough="sour", book=book()), shares(book(), "sour"))
        self.assertEqual(row_shares(dough="sour", book=book()), row_shares(book(), "sour"))
        self.assertEqual(feel(dough="sour", book=book()), feel(book(), "sour"))

    def test_by_chance(self):
        for one in some_books():
            for name in one.doughs():
                flour = reckoned_measure(one, name, "flour")
                if flour == 0:
                    continue
                told = shares(one, name)
                wanted = {stuff: pair(share / flour) for stuff, share in reckoned(one, name).items()}
                self.assertIs(type(told), dict)
                self.assertEqual(told, wanted)
                flours = sum(Fraction(*share) * Fraction(*one.stuff(stuff).flour()) for stuff, share in told.items())
                self.assertEqual(flours, 1)

    def test_a_told_dict_is_the_askers_own(self):
        one = book()
        for name in FLOURED:
            first, second = shares(one, name), shares(one, name)
            first.clear()
            self.assertEqual(second, shares(book(), name))
            second["oil"] = (1, 1)
            self.assertEqual(shares(one, name), shares(book(), name))
            self.assertEqual(opened(one, name), opened(book(), name))

    def test_of_another_book(self):
        one, other = book(), other_book()
        for name in FLOURED:
            self.assertEqual(shares(one, name), shares(book(), name))
            self.assertEqual(shares(other, name), {"milk": (1, 2), "rye": (1, 1)})
            self.assertEqual(row_shares(other, name), [("milk", (1, 2)), ("rye", (1, 1))])
            self.assertEqual(feel(other, name), (9, 16))
            self.assertEqual(row_shares(one, name), row_shares(book(), name))


class TestRowShares(unittest.TestCase):
    def test_of_stuffs_alone(self):
        self.assertEqual(row_shares(book(), "sour"), [("rye", (1, 1)), ("water", (1, 1))])
        self.assertEqual(row_shares(book(), "roll"), [("milk", (1, 2)), ("wheat", (1, 1))])

    def test_of_doughs_within_doughs(self):
        # 4 parts, 9/16 of them flour
        self.assertEqual(row_shares(book(), "sponge"), [("wheat", (8, 9)), ("sour", (2, 9)), ("water", (2, 3))])

    def test_by_chance(self):
        for one in some_books():
            for name in one.doughs():
                flour = reckoned_measure(one, name, "flour")
                if flour == 0:
                    continue
                rows = one.dough(name).rows()
                total = sum(Fraction(*parts) for _, parts in rows)
                wanted = [(thing, pair(Fraction(*parts) / total / flour)) for thing, parts in rows]
                told = row_shares(one, name)
                self.assertEqual(told, wanted)
                self.assertIs(type(told), list)
                self.assertEqual({type(row) for row in told}, {tuple})

    def test_made_a_dough_again_they_come_to_the_same(self):
        for one in [book(), *some_books()]:
            for name in one.doughs():
                if reckoned_measure(one, name, "flour") == 0:
                    continue
                again = by_shares(one, name, row_shares(one, name), one.dough(name).lead())
                put = one.put(again)
                self.assertEqual(opened(put, name), opened(one, name))
                self.assertEqual(row_shares(put, name), row_shares(one, name))
                self.assertEqual(again.lead(), one.dough(name).lead())

    def test_a_told_list_is_the_askers_own(self):
        one = book()
        first, second = row_shares(one, "loaf"), row_shares(one, "loaf")
        first.clear()
        self.assertEqual(second, row_shares(book(), "loaf"))
        second.append(("rye", (1, 1)))
        self.assertEqual(row_shares(one, "loaf"), row_shares(book(), "loaf"))
        self.assertEqual(one, book())


class TestFeel(unittest.TestCase):
    def test_feel(self):
        self.assertEqual(feel(book(), "sour"), (5, 4))
        self.assertEqual(feel(book(), "roll"), (3, 4))
        self.assertEqual(feel(book(), "soak"), (36, 5))
        self.assertEqual(feel(book(), "loaf"), (285, 388))

    def test_without_water(self):
        one = Book([Stuff("rye", (1, 1), thirst=(4, 5))], [Dough("a", [("rye", (3, 1))])])
        self.assertEqual(feel(one, "a"), (0, 1))

    def test_without_flour(self):
        self.assertEqual(measured(book(), "soak", "flour"), (0, 1))
        self.assertEqual(feel(book(), "soak"), (36, 5))

    def test_by_chance(self):
        for one in some_books():
            for name in one.doughs():
                thirst = reckoned_measure(one, name, "thirst")
                if thirst != 0:
                    told = feel(one, name)
                    self.assertEqual(told, pair(reckoned_measure(one, name, "water") / thirst))
                    self.assertTrue(is_fraction(told))


class TestRefused(Refusals):
    def refused(self, error, who, call, *given, **named):
        with self.assertRaises(error) as caught:
            call(*given, **named)
        self.assertEqual(caught.exception.who, who)

    def test_no_flour(self):
        for name in ["brine", "soak"]:
            for call in [shares, row_shares]:
                self.refused(NoFlour, name, call, book(), name)
                self.refused(NoFlour, name, call, dough=name, book=book())

    def test_no_feel(self):
        self.refused(NoFeel, "brine", feel, book(), "brine")
        self.refused(NoFeel, "brine", feel, dough="brine", book=book())

    def test_flour_without_thirst_and_thirst_without_flour(self):
        one = Book([Stuff("rye", flour=(1, 1)), Stuff("seed", thirst=(1, 1))],
                   [Dough("a", [("rye", (1, 1))]), Dough("b", [("seed", (1, 1))]), Dough("c", [("a", (1, 1))])])
        self.assertEqual(shares(one, "a"), {"rye": (1, 1)})
        self.assertEqual(row_shares(one, "c"), [("a", (1, 1))])
        self.refused(NoFeel, "a", feel, one, "a")
        self.refused(NoFeel, "c", feel, one, "c")
        self.assertEqual(feel(one, "b"), (0, 1))
        self.refused(NoFlour, "b", shares, one, "b")
        self.refused(NoFlour, "b", row_shares, one, "b")

    def test_by_chance(self):
        for one in some_books():
            for name in one.doughs():
                if reckoned_measure(one, name, "flour") == 0:
                    self.refused(NoFlour, name, shares, one, name)
                    self.refused(NoFlour, name, row_shares, one, name)
                if reckoned_measure(one, name, "thirst") == 0:
                    self.refused(NoFeel, name, feel, one, name)

    def test_no_dough_of_the_book(self):
        for thing in [*odd_things(), *NAMELESS]:
            for call in [shares, row_shares, feel]:
                self.no_name(thing, call, book(), thing)
                self.no_name(thing, call, dough=thing, book=book())

    def test_a_refusal_changes_nothing(self):
        one, names = book(), ["loaf"]
        for call in [shares, row_shares, feel]:
            self.no_name(names, call, one, names)
        self.refused(NoFlour, "brine", shares, one, "brine")
        self.assertEqual((one, names), (book(), ["loaf"]))


class TestByShares(Refusals):
    def no_dough(self, field, *given, **named):
        with self.assertRaises(NoDough) as caught:
            by_shares(*given, **named)
        self.assertEqual(caught.exception.field, field)

    def uneven(self, told, *given, **named):
        with self.assertRaises(Uneven) as caught:
            by_shares(*given, **named)
        self.assertEqual(caught.exception.told, told)

    def test_rows_of_stuffs(self):
        rows = [("wheat", (4, 5)), ("rye", (1, 5)), ("water", (7, 10)), ("salt", (1, 50))]
        made = by_shares(book(), "bun", rows, 4)
        self.assertIsInstance(made, Dough)
        self.assertEqual((made.name(), made.lead()), ("bun", 4))
        self.assertEqual(row_shares(book().put(made), "bun"), rows)

    def test_rows_of_doughs(self):
        made = by_shares(book(), "bun", BUN)
        put = book().put(made)
        self.assertEqual((made.name(), made.lead()), ("bun", 0))
        self.assertEqual(row_shares(put, "bun"), BUN)
        self.assertEqual(shares(put, "bun"), {"wheat": (3, 4), "rye": (1, 4), "water": (17, 20), "salt": (1, 50)})

    def test_rows_of_doughs_alone(self):
        rows = [("sponge", (8, 9)), ("sour", (1, 1))]
        self.assertEqual(row_shares(book().put(by_shares(book(), "bun", rows)), "bun"), rows)

    def test_one_row(self):
        self.assertEqual(row_shares(book().put(by_shares(book(), "a", [("rye", (1, 1))])), "a"), [("rye", (1, 1))])
        self.assertEqual(row_shares(book().put(by_shares(book(), "a", [("sour", (2, 1))])), "a"), [("sour", (2, 1))])

    def test_by_names_and_of_a_tuple(self):
        wanted = by_shares(book(), "bun", BUN, 7)
        self.assertEqual(by_shares(lead=7, rows=tuple(BUN), name="bun", book=book()), wanted)
        self.assertEqual(by_shares(book(), "bun", BUN, lead=7), wanted)

    def test_a_name_that_the_book_has_already(self):
        for name in ["soak", "roll", "loaf"]:
            made = by_shares(book(), name, BUN, 1)
            put = book().put(made)
            self.assertEqual(row_shares(put, name), BUN)
            self.assertEqual(put.doughs(), book().doughs())
        rows = [("roll", (3, 2)), ("milk", (1, 4))]
        self.assertEqual(row_shares(book().put(by_shares(book(), "sour", rows)), "sour"), rows)

    def test_a_name_that_is_refused_when_it_is_put(self):
        with self.assertRaises(Twice) as caught:
            book().put(by_shares(book(), "rye", BUN))
        self.assertEqual(caught.exception.who, "rye")
        for name in ["sour", "sponge"]:
            made = by_shares(book(), name, [("sponge", (16, 9))])
            self.assertEqual(made.name(), name)
            with self.assertRaises(Ring):
                book().put(made)

    def test_by_chance(self):
        tried = 0
        for one in some_books():
            for name in one.doughs():
                rows = one.dough(name).rows()
                flour = sum(Fraction(*parts) * self.flour(one, thing) for thing, parts in rows)
                if flour == 0:
                    continue
                tried += 1
                even = [(thing, pair(Fraction(*parts) / flour)) for thing, parts in rows]
                self.assertEqual(row_shares(one.put(by_shares(one, "zz", even)), "zz"), even)
                if flour != 1:
                    self.uneven(pair(flour), one, "zz", rows)
        self.assertGreater(tried, 100)

    def flour(self, one, thing):
        if thing in one.stuffs():
            return Fraction(*one.stuff(thing).flour())
        return reckoned_measure(one, thing, "flour")

    def test_what_is_done_to_the_handed_rows(self):
        rows = list(BUN)
        made = by_shares(book(), "bun", rows)
        self.assertEqual(rows, BUN)
        rows.clear()
        self.assertEqual(made, by_shares(book(), "bun", BUN))

    def test_the_book_stays(self):
        one = book()
        by_shares(one, "bun", BUN)
        self.assertEqual(one, Book(stuffs(), doughs()))

    def test_no_dough(self):
        for name in ["", "Bun", "abcdefghijk", None, b"bun", ["bun"], 1]:
            self.no_dough("name", book(), name, BUN)
        nine = [(letter, (1, 1)) for letter in "abcdefghi"]
        for rows in [[], (), nine, None, dict(BUN), [*BUN, ["rye", (1, 1)]], [*BUN, ("rye",)], [*BUN, BUN[0]],
                     [*BUN, ("rye", (0, 1))], [*BUN, ("rye", (-1, 1))], [*BUN, ("rye", (2, 2))], [*BUN, ("Rye", (1, 1))]]:
            self.no_dough("rows", book(), "bun", rows)
        for lead in [-1, 100, True, None, "1", (1, 1)]:
            self.no_dough("lead", book(), "bun", BUN, lead)

    def test_no_dough_of_anything(self):
        for thing in [*odd_things(), None]:
            self.no_dough("name", book(), thing, thing, thing)
            self.no_dough("rows", book(), "bun", thing, -1)
            self.no_dough("rows", book(), "bun", [*BUN, (thing, (1, 1))])
            if type(thing) is not int or thing not in range(100):
                self.no_dough("lead", book(), "bun", BUN, thing)

    def test_unknown(self):
        self.unknown("bun", "oil", by_shares, book(), "bun", [("oil", (1, 1))])
        self.unknown("bun", "oil", by_shares, book(), "bun", [*BUN, ("oil", (1, 1)), ("fat", (1, 1))])
        self.unknown("bun", "fat", by_shares, book(), "bun", [("fat", (1, 1)), *BUN, ("oil", (1, 1))])
        self.unknown("bun", "bun", by_shares, book(), "bun", [*BUN, ("bun", (1, 1))])
        self.unknown("rye", "oil", by_shares, book(), "rye", [("oil", (1, 1))])
        self.unknown("bun", "rye", by_shares, Book([], []), "bun", [("rye", (1, 1))])

    def test_uneven(self):
        self.uneven((1, 2), book(), "bun", [("rye", (1, 2))])
        self.uneven((2, 1), book(), "bun", [("rye", (2, 1))])
        self.uneven((0, 1), book(), "bun", [("water", (1, 1))])
        self.uneven((0, 1), book(), "bun", [("water", (1, 1)), ("soak", (1, 1))])
        self.uneven((1, 2), book(), "bun", [("sour", (1, 1))])
        self.uneven((3, 2), book(), "bun", [("sour", (1, 1)), ("rye", (1, 1))])
        self.uneven((999999999999, 1000000000000), book(), "bun", [("rye", (999999999999, 1000000000000))])
        self.uneven((9, 16), book(), "sour", [("sponge", (1, 1)), ("water", (1, 1))])

    def test_several_due_at_once(self):
        self.no_dough("name", book(), "Bun", [("oil", (1, 1))], -1)
        self.no_dough("rows", book(), "bun", [("oil", (1, 1)), ("rye", (0, 1))], -1)
        self.no_dough("lead", book(), "bun", [("oil", (1, 1))], -1)
        self.no_dough("lead", book(), "bun", [("rye", (2, 1))], 100)
        self.unknown("bun", "oil", by_shares, book(), "bun", [("rye", (2, 1)), ("oil", (1, 1))])

    def test_a_refusal_changes_nothing(self):
        one, rows = book(), [*BUN, ["rye", [1, 1]]]
        self.no_dough("rows", one, "bun", rows)
        self.uneven((1, 2), one, "bun", [("rye", (1, 2))])
        self.assertEqual((one, rows), (book(), [*BUN, ["rye", [1, 1]]]))


if __name__ == "__main__":
    unittest.main()
