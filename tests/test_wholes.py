"""Wholes: [13], and of [2], [3] and [4] what is told of them."""

import inspect
import itertools
import unittest
from random import Random

from breads import book, number, other_book, pair, reckoned, some_books, some_fraction
from loafshares.books import Book
from loafshares.doughs import Dough
from loafshares.errors import NoDough, NoTaken, NoWhole, Short
from loafshares.fractions import is_fraction, times
from loafshares.opened import opened
from loafshares.stuffs import Stuff
from loafshares.wholes import left, rejoined
from refusals import Refusals
from things import Alike, odd_things

WHOLE = {"wheat": (10, 1), "water": (8, 1), "rye": (1, 1), "salt": (1, 4)}
NONES = [(0, 1), (-1, 1), (2, 4), (0, 2), (1, 0), (1, -1), (True, 1), (1, True), [1, 1], (1,), None, 1, True, "1", ""]


def wide_book():
    """Twelve stuffs, and doughs of one stuff each."""
    letters = "abcdefghijkl"
    return Book([Stuff(letter) for letter in letters], [Dough("m" + letter, [(letter, (1, 1))]) for letter in letters[:9]])


class Wholes(Refusals):
    def no_whole(self, whole, taken=()):
        with self.assertRaises(NoWhole):
            left(book(), whole, taken)
        with self.assertRaises(NoWhole):
            rejoined(book(), "bun", whole, taken)

    def no_taken(self, taken, whole=None):
        with self.assertRaises(NoTaken):
            left(book(), whole or WHOLE, taken)
        with self.assertRaises(NoTaken):
            rejoined(book(), "bun", whole or WHOLE, taken)

    def short(self, who, missing, whole, taken):
        for call in [lambda: left(book(), whole, taken), lambda: rejoined(book(), "bun", whole, taken, 3)]:
            with self.assertRaises(Short) as caught:
                call()
            self.assertEqual((caught.exception.who, caught.exception.missing), (who, missing))

    def no_dough(self, field, *given, **named):
        with self.assertRaises(NoDough) as caught:
            rejoined(*given, **named)
        self.assertEqual(caught.exception.field, field)


class TestLeft(unittest.TestCase):
    def test_interface(self):
        self.assertEqual(list(inspect.signature(left).parameters), ["book", "whole", "taken"])
        self.assertEqual(list(inspect.signature(rejoined).parameters), ["book", "name", "whole", "taken", "lead"])
        self.assertEqual(inspect.signature(rejoined).parameters["lead"].default, 0)
        self.assertEqual((left.__module__, rejoined.__module__), ("loafshares.wholes",) * 2)

    def test_none_taken(self):
        for taken in [[], ()]:
            self.assertEqual(left(book(), WHOLE, taken), WHOLE)
        self.assertEqual(left(book(), {"rye": (1, 999999999999)}, []), {"rye": (1, 999999999999)})

    def test_one_taken(self):
        wanted = {"wheat": (10, 1), "water": (15, 2), "rye": (1, 2), "salt": (1, 4)}
        self.assertEqual(left(book(), WHOLE, [("sour", (1, 1))]), wanted)
        self.assertEqual(left(book(), WHOLE, (("sour", (1, 1)),)), wanted)
        self.assertEqual(left(taken=[("sour", (1, 1))], whole=WHOLE, book=book()), wanted)

    def test_several_taken(self):
        taken = [("sponge", (4, 1)), ("sour", (1, 1)), ("brine", (2, 1))]
        # sponge has 2 of wheat, 1/4 of rye, 7/4 of water; sour 1/2 of rye and of water; brine 9/5 of water, 1/5 of salt
        wanted = {"wheat": (8, 1), "water": (79, 20), "rye": (1, 4), "salt": (1, 20)}
        for order in itertools.permutations(taken):
            self.assertEqual(left(book(), WHOLE, list(order)), wanted)

    def test_a_stuff_that_is_used_up_is_not_there(self):
        self.assertEqual(left(book(), {"rye": (1, 1), "water": (3, 1)}, [("sour", (2, 1))]), {"water": (2, 1)})
        self.assertEqual(left(book(), {"rye": (1, 1), "water": (1, 1)}, [("sour", (2, 1))]), {})
        taken = [("sour", (1, 3)), ("sponge", (16, 3))]
        self.assertEqual(left(book(), {"rye": (1, 2), "water": (9, 2), "wheat": (8, 3)}, taken), {"water": (2, 1)})

    def test_a_taken_dough_that_has_doughs_within(self):
        told = left(book(), WHOLE, [("loaf", (117, 20))])
        self.assertEqual(told, {"wheat": (25, 4), "rye": (25, 32), "water": (199, 32), "salt": (3, 20)})

    def test_the_order_of_keys_means_nothing(self):
        backwards = dict(reversed(WHOLE.items()))
        self.assertEqual(left(book(), backwards, [("sour", (1, 1))]), left(book(), WHOLE, [("sour", (1, 1))]))
        one, other = rejoined(book(), "bun", backwards, []), rejoined(book(), "bun", WHOLE, [])
        self.assertEqual(one, other)

    def test_by_chance(self):
        for one, whole, taken in chances():
            wanted = {stuff: number(weight) for stuff, weight in whole.items()}
            for dough, weight in taken:
                for stuff, share in reckoned(one, dough).items():
                    wanted[stuff] -= share * number(weight)
            told = left(one, whole, taken)
            self.assertIs(type(told), dict)
            self.assertEqual(told, {stuff: pair(rest) for stuff, rest in wanted.items() if rest > 0})
            self.assertTrue(all(is_fraction(rest) for rest in told.values()))

    def test_what_is_done_to_handed_and_told_ones(self):
        one, whole, taken = book(), dict(WHOLE), [("sour", (1, 1))]
        first, second = left(one, whole, taken), left(one, whole, taken)
        self.assertEqual((one, whole, taken), (book(), WHOLE, [("sour", (1, 1))]))
        wanted = left(book(), WHOLE, [("sour", (1, 1))])
        first.clear()
        whole["rye"] = (9, 1)
        taken.clear()
        self.assertEqual(second, wanted)
        whole = dict(WHOLE)
        told = left(one, whole, [])
        self.assertIsNot(told, whole)
        told.clear()
        self.assertEqual((whole, left(one, whole, [])), (WHOLE, WHOLE))

    def test_of_another_book(self):
        whole = {"milk": (4, 1), "rye": (4, 1), "water": (4, 1)}
        one, other = book(), other_book()
        self.assertEqual(left(one, whole, [("sour", (6, 1))]), {"milk": (4, 1), "rye": (1, 1), "water": (1, 1)})
        self.assertEqual(left(other, whole, [("sour", (6, 1))]), {"milk": (2, 1), "water": (4, 1)})
        self.assertEqual(left(one, whole, [("sour", (6, 1))]), {"milk": (4, 1), "rye": (1, 1), "water": (1, 1)})


def chances():
    """Books, wholes and what can be taken of them; some stuffs are used up."""
    random = Random(7)
    for one in some_books():
        names = random.sample(one.doughs(), min(len(one), random.randint(0, 3)))
        taken = [(name, some_fraction(random)) for name in names]
        sums = {}
        for name, weight in taken:
            for stuff, share in reckoned(one, name).items():
                sums[stuff] = sums.get(stuff, 0) + share * number(weight)
        for stuff in one.stuffs():
            if random.random() < 0.5 or not sums:
                sums[stuff] = sums.get(stuff, 0) + number(some_fraction(random))
        yield one, {stuff: pair(weight) for stuff, weight in sums.items()}, taken


class TestRejoined(Wholes):
    def test_rows_in_the_order_told(self):
        taken = [("sponge", (4, 1)), ("sour", (1, 1)), ("brine", (2, 1))]
        rests = [("rye", (1, 4)), ("salt", (1, 20)), ("water", (79, 20)), ("wheat", (8, 1))]
        for order in itertools.permutations(taken):
            self.assertEqual(rejoined(book(), "bun", WHOLE, list(order)), Dough("bun", [*order, *rests]))
            self.assertEqual(rejoined(book(), "bun", WHOLE, order), Dough("bun", [*order, *rests]))

    def test_none_taken(self):
        wanted = Dough("bun", [("rye", (1, 1)), ("salt", (1, 4)), ("water", (8, 1)), ("wheat", (10, 1))])
        self.assertEqual(rejoined(book(), "bun", WHOLE, []), wanted)

    def test_all_taken(self):
        made = rejoined(book(), "bun", {"rye": (1, 1), "water": (1, 1)}, [("sour", (2, 1))])
        self.assertEqual(made, Dough("bun", [("sour", (2, 1))]))

    def test_its_lead(self):
        for lead in [0, 1, 99]:
            self.assertEqual(rejoined(book(), "bun", WHOLE, [], lead).lead(), lead)
            self.assertEqual(rejoined(lead=lead, taken=[], whole=WHOLE, name="bun", book=book()).lead(), lead)
        self.assertEqual(rejoined(book(), "bun", WHOLE, []).lead(), 0)

    def test_what_it_comes_to_is_the_whole_by_its_weight(self):
        tried = 0
        for one, whole, taken in chances():
            if len(taken) + len(left(one, whole, taken)) > 8:
                continue
            tried += 1
            put = one.put(rejoined(one, "zz", whole, taken))
            total = sum(number(weight) for weight in whole.values())
            wanted = {stuff: pair(number(weight) / total) for stuff, weight in whole.items()}
            self.assertEqual(opened(put, "zz"), wanted)
            self.assertEqual(put.dough("zz").total(), pair(total))
        self.assertGreater(tried, 30)

    def test_eight_rows_and_nine(self):
        one = wide_book()
        for many in range(9):
            taken = [("m" + letter, (1, 2)) for letter in "abcdefgh"[:many]]
            used = {letter: (1, 2) for letter in "abcdefgh"[:many]}
            rests = {letter: (2, 1) for letter in "lkjihgfe"[:8 - many]}
            whole = {**used, **{letter: (5, 2) if letter in used else rest for letter, rest in rests.items()}}
            made = rejoined(one, "bun", whole, taken)
            self.assertEqual(made.rows(), [*taken, *sorted(rests.items())])
            with self.assertRaises(NoDough) as caught:
                rejoined(one, "bun", {**whole, "i": (2, 1), "h": (2, 1), "d": (2, 1), "a": (2, 1), "b": (3, 1)}, taken)
            self.assertEqual(caught.exception.field, "rows")

    def test_twelve_stuffs_and_nine_doughs(self):
        one = wide_book()
        self.no_dough("rows", one, "bun", {letter: (1, 1) for letter in "abcdefghi"}, [])
        self.no_dough("rows", one, "bun", {letter: (1, 1) for letter in "abcdefghijkl"}, [])
        nine = [("m" + letter, (1, 1)) for letter in "abcdefghi"]
        self.no_dough("rows", one, "bun", {letter: (1, 1) for letter in "abcdefghi"}, nine)
        self.assertEqual(left(one, {letter: (1, 1) for letter in "abcdefghi"}, nine), {})

    def test_what_is_done_to_handed_ones(self):
        one, whole, taken = book(), dict(WHOLE), [("sour", (1, 1))]
        made = rejoined(one, "bun", whole, taken, 4)
        self.assertEqual((one, whole, taken), (book(), WHOLE, [("sour", (1, 1))]))
        whole.clear()
        taken.append(("brine", (1, 1)))
        self.assertEqual(made, rejoined(book(), "bun", WHOLE, [("sour", (1, 1))], 4))

    def test_no_dough_of_name_and_lead(self):
        for name in ["", "Bun", "abcdefghijk", "bun ", None, b"bun", 1]:
            self.no_dough("name", book(), name, WHOLE, [])
            self.no_dough("name", book(), name, WHOLE, [], -1)
        for lead in [-1, 100, True, None, "1", (1, 1), [1]]:
            self.no_dough("lead", book(), "bun", WHOLE, [], lead)
        for thing in [*odd_things(), None]:
            self.no_dough("name", book(), thing, WHOLE, [], thing)
            if type(thing) is not int or thing not in range(100):
                self.no_dough("lead", book(), "bun", WHOLE, [], thing)

    def test_twice(self):
        for name in [*book().stuffs(), *book().doughs()]:
            self.twice(name, rejoined, book(), name, WHOLE, [])

    def test_several_due_at_once(self):
        self.no_dough("name", book(), "Rye", None, None, -1)
        self.no_dough("lead", book(), "rye", None, None, 100)
        self.no_dough("lead", book(), "loaf", {}, [], None)
        self.twice("rye", rejoined, book(), "rye", None, None)
        self.twice("loaf", rejoined, book(), "loaf", {}, [])
        self.twice("loaf", rejoined, book(), "loaf", WHOLE, None)
        self.twice("loaf", rejoined, book(), "loaf", WHOLE, [("sour", (99, 1))])
        one, nine = wide_book(), {letter: (1, 1) for letter in "abcdefghi"}
        with self.assertRaises(Short):
            rejoined(one, "bun", nine, [("ma", (2, 1))])
        with self.assertRaises(NoTaken):
            rejoined(one, "bun", nine, None)
        with self.assertRaises(NoWhole):
            rejoined(one, "bun", {**nine, "ma": (1, 1)}, [])
        self.twice("a", rejoined, one, "a", nine, [])


class TestNoWhole(Wholes):
    def test_no_dict(self):
        for whole in [None, [], (), "rye", ["rye"], list(WHOLE.items()), tuple(WHOLE.items()), set(WHOLE), 1, book()]:
            self.no_whole(whole)

    def test_an_empty_one(self):
        self.no_whole({})

    def test_names_that_are_no_stuffs(self):
        for name in ["oil", "Rye", "", "rye ", None, 1, True, b"rye", ("rye",), frozenset(["rye"]), Alike(), "loaf", "sour"]:
            self.no_whole({name: (1, 1)})
            self.no_whole({**WHOLE, name: (1, 1)})
            self.no_whole({name: (1, 1), **WHOLE})

    def test_values_that_are_no_fractions_above_0(self):
        for weight in [*odd_things(), *NONES]:
            self.no_whole({"rye": weight})
            self.no_whole({**WHOLE, "milk": weight})
            self.no_whole({"milk": weight, **WHOLE})

    def test_of_anything(self):
        for thing in odd_things():
            if thing.__class__ is not dict or "rye" not in thing:
                self.no_whole(thing)

    def test_ahead_of_no_taken(self):
        for whole in [None, {}, {"oil": (1, 1)}, {"rye": (0, 1)}, {"loaf": (1, 1)}]:
            for taken in [None, [None], [("oil", (1, 1))], {}, "sour", [("sour", (1, 1))] * 2, [("sour", (9, 1))]]:
                self.no_whole(whole, taken)

    def test_what_was_handed_in_stays(self):
        one, whole = book(), {"rye": [1, [1]]}
        self.no_whole(whole)
        self.assertEqual((one, whole), (book(), {"rye": [1, [1]]}))


class TestNoTaken(Wholes):
    def test_no_list(self):
        for taken in [None, {}, {"sour": (1, 1)}, "", "sour", set(), 0, 1, iter([]), range(0), book()]:
            self.no_taken(taken)

    def test_a_tuple_in_its_place(self):
        self.assertEqual(left(book(), WHOLE, (("sour", (1, 1)),)), left(book(), WHOLE, [("sour", (1, 1))]))
        self.no_taken(("sour", (1, 1)))

    def test_rows_that_are_none(self):
        wrong = [["sour", (1, 1)], ("sour",), ("sour", (1, 1), (1, 1)), (), "so", None, ("sour", 1, 1), {"sour": (1, 1)}]
        for row in wrong:
            self.no_taken([row])
            self.no_taken((row,))
            self.no_taken([("brine", (1, 1)), row])
            self.no_taken([row, ("brine", (1, 1))])

    def test_doughs_that_there_are_not(self):
        for name in ["oil", "rye", "Sour", "", "sour ", None, 1, b"sour", ("sour",), ["sour"], {"sour"}]:
            self.no_taken([(name, (1, 9))])
            self.no_taken([("brine", (1, 9)), (name, (1, 9))])

    def test_one_dough_twice(self):
        self.no_taken([("sour", (1, 9)), ("sour", (1, 9))])
        self.no_taken([("sour", (1, 9)), ("brine", (1, 9)), ("sour", (2, 9))])

    def test_weights_that_are_no_fractions_above_0(self):
        for weight in [*odd_things(), *NONES]:
            self.no_taken([("sour", weight)])
            self.no_taken([("brine", (1, 9)), ("sour", weight)])

    def test_of_anything(self):
        for thing in odd_things():
            if thing.__class__ not in (list, tuple) or thing:
                self.no_taken(thing)
            self.no_taken([thing])
            self.no_taken([(thing, (1, 1))])

    def test_ahead_of_short(self):
        self.no_taken([("sour", (99, 1)), ("sour", (1, 1))])
        self.no_taken([("sour", (99, 1)), ("oil", (1, 1))], {"wheat": (1, 1)})
        self.no_taken([("sour", (99, 1)), ["brine", (1, 1)]], {"wheat": (1, 1)})

    def test_what_was_handed_in_stays(self):
        whole, taken = dict(WHOLE), [["sour", [1, 1]]]
        with self.assertRaises(NoTaken):
            left(book(), whole, taken)
        self.assertEqual((whole, taken), (WHOLE, [["sour", [1, 1]]]))


class TestShort(Wholes):
    def test_short(self):
        self.short("rye", (1, 2), WHOLE, [("sour", (3, 1))])
        self.short("rye", (1, 999999999999), {"rye": (999999999998, 999999999999), "water": (9, 1)}, [("sour", (2, 1))])

    def test_just_enough_is_not_short(self):
        self.assertEqual(left(book(), {"rye": (1, 1), "water": (1, 1)}, [("sour", (2, 1))]), {})

    def test_of_what_the_whole_has_not(self):
        self.short("rye", (1, 2), {"water": (9, 1)}, [("sour", (1, 1))])
        self.short("water", (1, 2), {"rye": (9, 1)}, [("sour", (1, 1))])
        self.short("seed", (1, 1), {"water": (9, 1), "salt": (9, 1)}, [("soak", (3, 1))])

    def test_of_several_doughs_together(self):
        whole = {"rye": (1, 1), "water": (50, 1), "wheat": (50, 1)}
        self.assertEqual(left(book(), whole, [("sour", (2, 1))])["water"], (49, 1))
        self.assertEqual(left(book(), whole, [("sponge", (16, 1))])["water"], (43, 1))
        self.short("rye", (1, 1), whole, [("sour", (2, 1)), ("sponge", (16, 1))])
        self.short("rye", (1, 1), whole, [("sponge", (16, 1)), ("sour", (2, 1))])

    def test_the_first_stuff_sorted(self):
        self.short("milk", (1, 1), {"salt": (1, 1)}, [("sour", (2, 1)), ("roll", (3, 1))])
        self.short("rye", (1, 1), {"milk": (1, 1), "salt": (1, 1)}, [("roll", (3, 1)), ("sour", (2, 1))])
        self.short("salt", (1, 10), {"wheat": (1, 1)}, [("brine", (1, 1))])
        self.short("water", (1, 10), {"salt": (1, 10), "water": (4, 5)}, [("brine", (1, 1))])

    def test_missing_is_a_fraction_in_lowest_terms(self):
        tried = 0
        for one, whole, taken in chances():
            more = [(name, times(weight, (3, 2))) for name, weight in taken]
            sums = {}
            for name, weight in more:
                for stuff, share in reckoned(one, name).items():
                    sums[stuff] = sums.get(stuff, 0) + share * number(weight)
            lacking = {stuff: much - number(whole[stuff]) for stuff, much in sums.items() if much > number(whole[stuff])}
            if not lacking:
                continue
            tried += 1
            with self.assertRaises(Short) as caught:
                left(one, whole, more)
            self.assertEqual(caught.exception.who, min(lacking))
            self.assertEqual(caught.exception.missing, pair(lacking[min(lacking)]))
        self.assertGreater(tried, 20)

    def test_a_refusal_changes_nothing(self):
        one, whole, taken = book(), dict(WHOLE), [("sour", (3, 1))]
        with self.assertRaises(Short):
            left(one, whole, taken)
        self.assertEqual((one, whole, taken), (book(), WHOLE, [("sour", (3, 1))]))


if __name__ == "__main__":
    unittest.main()
