"""Changed flours and moves: [17], [18], and of [2], [3] and [4] what is told of them."""

import inspect
import unittest
from fractions import Fraction
from random import Random

from breads import book, doughs, number, other_book, pair, reckoned, some_books, some_fraction, some_names, some_stuff, stuffs
from loafshares.books import Book
from loafshares.changing import changed, moves
from loafshares.doughs import Dough
from loafshares.errors import Dry, NoBy, NoFeel
from loafshares.fractions import is_fraction
from loafshares.shares import feel
from loafshares.stuffs import Stuff
from refusals import Refusals
from things import odd_things

NAMELESS = [None, "", "oil", "loaf", "sour", "Rye", "rye ", ["rye"], ("rye",), {"rye"}, b"rye"]
PLAIN = [
    Stuff("old", flour=(1, 1), thirst=(1, 1)), Stuff("new", flour=(1, 1), thirst=(1, 2)), Stuff("by", water=(1, 2)),
    Stuff("wet", water=(1, 1)), Stuff("salt", salt=(1, 1)), Stuff("meal", flour=(1, 1), thirst=(1, 1)),
]


def of(name, lead=0, **rows):
    """A dough with parts by things."""
    return Dough(name, [(thing, pair(parts)) for thing, parts in rows.items()], lead)


def told_doughs(one):
    return [one.dough(name) for name in one.doughs()]


def change(*made):
    """The doughs of the changed book of these doughs."""
    return told_doughs(changed(Book(PLAIN, made), "old", "new", "by"))


def per_weight(one, rows, thing, word):
    """How much of a measure one weight of a thing has, path by path; rows are dicts of parts by doughs."""
    if thing in one.stuffs():
        return number(one.stuff(thing).measure(word))
    return amount(one, rows, thing, word) / sum(rows[thing].values())


def amount(one, rows, name, word):
    return sum(parts * per_weight(one, rows, thing, word) for thing, parts in rows[name].items())


def reckoned_change(one, old, new, by):
    """A dict of dicts of parts, or a refusal and the dough that it tells."""
    before = {name: {thing: number(parts) for thing, parts in one.dough(name).rows()} for name in one.doughs()}
    rows = {}
    for name in one.making(one.doughs()):
        rows[name] = {new if thing == old and new not in before[name] else thing: parts
                      for thing, parts in before[name].items() if thing != old or new not in before[name]}
        if old in before[name] and new in before[name]:
            rows[name][new] += before[name][old]
        if by not in rows[name] or old not in reckoned(one, name):
            continue
        thirst = amount(one, before, name, "thirst")
        if thirst == 0 or amount(one, rows, name, "thirst") == 0:
            return (NoFeel, name)
        # the water moves evenly with the parts of by: two tries tell all
        tries = []
        for parts in [0, 1]:
            rows[name][by] = Fraction(parts)
            tries.append(amount(one, rows, name, "water"))
        wanted = amount(one, before, name, "water") / thirst * amount(one, rows, name, "thirst")
        rows[name][by] = (wanted - tries[0]) / (tries[1] - tries[0])
        if rows[name][by] < 0:
            return (Dry, name)
        if rows[name][by] == 0:
            del rows[name][by]
    return rows


def some_change(seed):
    """A book made by chance that has stuffs old, new and by."""
    random = Random(seed)
    others = [some_stuff(random, name) for name in some_names(random, random.randint(1, 5))]
    own = [
        Stuff("old", thirst=some_fraction(random, 1)),
        Stuff("new", thirst=some_fraction(random, 1) if random.random() < 0.8 else None, price=(1, 1)),
        Stuff("by", water=pair(Fraction(random.randint(1, 9), 9)), salt=(0, 1)),
    ]
    things = [stuff.name() for stuff in own + others]
    made = []
    for at in range(random.randint(1, 8)):
        rows = random.sample(things, min(len(things), random.randint(1, 6)))
        if random.random() < 0.5 and "by" not in rows:
            rows[random.randrange(len(rows))] = "by"
        name = "d" + "abcdefgh"[random.randrange(8)] + "abcdefgh"[at]
        made.append(Dough(name, [(thing, some_fraction(random, 1)) for thing in rows], random.randint(0, 99)))
        things.append(name)
    random.shuffle(made)
    together = own + others
    random.shuffle(together)
    return Book(together, made)


def some_changes():
    return [some_change(seed) for seed in range(400)]


class Changes(Refusals):
    def refused(self, kind, who, *made):
        with self.assertRaises(kind) as caught:
            change(*made)
        self.assertEqual(caught.exception.who, who)

    def no_by(self, one, *given):
        with self.assertRaises(NoBy):
            changed(one, *given)


class TestChanged(Changes):
    def test_interface(self):
        self.assertEqual(list(inspect.signature(changed).parameters), ["book", "old", "new", "by"])
        self.assertEqual(list(inspect.signature(moves).parameters), ["book", "other"])
        self.assertEqual((changed.__module__, moves.__module__), ("loafshares.changing",) * 2)

    def test_a_row_of_old_without_one_of_new_or_by(self):
        self.assertEqual(change(of("a", 9, salt=1, old=3, wet=2)), [of("a", 9, salt=1, new=3, wet=2)])
        self.assertEqual(change(of("a", old=3)), [of("a", new=3)])

    def test_a_row_of_old_and_one_of_new(self):
        self.assertEqual(change(of("a", old=3, salt=1, new=2)), [of("a", salt=1, new=5)])
        self.assertEqual(change(of("a", new=2, salt=1, old=3)), [of("a", new=5, salt=1)])

    def test_a_row_of_by(self):
        # the thirst was 4 and is 2, so that half of the water is wanted
        self.assertEqual(change(of("a", old=4, by=6)), [of("a", new=4, by=3)])
        self.assertEqual(change(of("a", by=6, salt=1, old=4)), [of("a", by=3, salt=1, new=4)])
        # the thirst was 4 and is 3
        self.assertEqual(change(of("a", old=2, by=8, new=4)), [of("a", by=6, new=6)])
        # 3 of water for a thirst of 4; for one of 2 there is 1 besides by
        self.assertEqual(change(of("a", old=4, wet=1, by=4)), [of("a", new=4, wet=1, by=1)])

    def test_doughs_that_did_not_come_to_old(self):
        made = [of("a", 5, meal=4, by=6), of("b", 1, new=2, by=7, a=1), of("c", by=2), of("d", salt=1, by=1, wet=1)]
        self.assertEqual(change(*made), made)

    def test_an_outer_dough_moves_by_an_inner_ones_change_alone(self):
        inner, outer = of("inner", 3, old=4, wet=2), of("outer", meal=1, inner=3, by=2)
        # outer had a water of 1 + 1 and a thirst of 1 + 2; then it has a thirst of 1 + 1, and 1 of water without by
        self.assertEqual(change(outer, inner), [of("outer", meal=1, inner=3, by=Fraction(2, 3)), of("inner", 3, new=4, wet=2)])

    def test_of_doughs_within_doughs(self):
        wanted = doughs()
        wanted[0] = Dough(
            "loaf", [("rye", (6, 1)), ("sponge", (3, 1)), ("water", (272, 97)), ("salt", (1, 5)), ("sour", (1, 2))], 2,
        )
        wanted[2] = Dough("sponge", [("rye", (2, 1)), ("sour", (1, 2)), ("water", (2, 1))], 5)
        wanted[3] = Dough("roll", [("milk", (1, 3)), ("rye", (2, 3))])
        self.assertEqual(changed(book(), "wheat", "rye", "water"), Book(stuffs(), wanted))
        self.assertEqual(changed(by="water", new="rye", old="wheat", book=book()), Book(stuffs(), wanted))

    def test_by_another_stuff_that_has_water(self):
        told = changed(book(), "wheat", "rye", "milk")
        # the thirst was 2/3 of 3/5 and is 2/3 of 4/5
        self.assertEqual(told.dough("roll"), Dough("roll", [("milk", (4, 9)), ("rye", (2, 3))]))
        self.assertEqual(told.dough("sponge"), Dough("sponge", [("rye", (2, 1)), ("sour", (1, 2)), ("water", (3, 2))], 5))

    def test_a_row_of_by_that_goes(self):
        self.assertEqual(change(of("a", old=2, wet=1, by=2)), [of("a", new=2, wet=1)])
        self.assertEqual(change(of("a", 8, by=2, wet=1, old=2)), [of("a", 8, wet=1, new=2)])
        inner, outer = of("inner", old=4, wet=2), of("outer", inner=3, by=2)
        # outer had a water of 1 + 1 and a thirst of 2, then it has a thirst of 1, and 1 of water without by
        self.assertEqual(change(inner, outer), [of("inner", new=4, wet=2), of("outer", inner=3)])

    def test_a_feel_of_0_stays(self):
        one = Book([Stuff("old", thirst=(1, 1)), Stuff("new", thirst=(2, 1)), Stuff("by", water=(1, 1))], [of("a", old=1)])
        self.assertEqual(told_doughs(changed(one, "old", "new", "by")), [of("a", new=1)])

    def test_dry(self):
        self.refused(Dry, "a", of("a", old=2, wet=Fraction(3, 2), by=1))
        self.refused(Dry, "outer", of("outer", inner=3, wet=1, by=1), of("inner", old=4, wet=2))
        self.refused(Dry, "b", of("c", old=2, wet=2, by=1), of("b", old=2, wet=2, by=1), of("a", old=1))

    def test_no_feel(self):
        dry = [Stuff("old"), Stuff("new"), Stuff("by", water=(1, 1)), Stuff("meal", thirst=(1, 1))]
        for ahead, then in [((0, 1), (0, 1)), ((0, 1), (1, 1)), ((1, 1), (0, 1))]:
            dry[0], dry[1] = Stuff("old", thirst=ahead), Stuff("new", thirst=then)
            one = Book(dry, [of("c", old=1, by=1), of("b", meal=1, old=1, by=3), of("a", old=1), of("d", old=1, by=1)])
            with self.assertRaises(NoFeel) as caught:
                changed(one, "old", "new", "by")
            self.assertEqual(caught.exception.who, "c")

    def test_the_first_one_in_making_order(self):
        none = [Stuff("old", thirst=(1, 1)), Stuff("new"), Stuff("by", water=(1, 1)), Stuff("wet", water=(1, 1)),
                Stuff("meal", thirst=(1, 9))]
        thirstless, dry = of("a", old=1, by=1), of("b", old=1, meal=1, wet=3, by=1)
        for made, kind, who in [
            ([dry, thirstless], NoFeel, "a"), ([thirstless, dry], NoFeel, "a"),
            ([of("z", old=1, by=1), dry], Dry, "b"), ([dry, of("z", old=1, by=1)], Dry, "b"),
            # a is behind z, which is within it
            ([of("a", z=1, old=1, by=1), of("z", old=1, meal=1, wet=3, by=1)], Dry, "z"),
            ([of("a", z=1, meal=1, old=1, wet=9, by=1), of("z", old=1, by=1)], NoFeel, "z"),
        ]:
            with self.assertRaises(kind) as caught:
                changed(Book(none, made), "old", "new", "by")
            self.assertEqual(caught.exception.who, who)

    def test_by_chance(self):
        ends = []
        for one in some_changes():
            wanted = reckoned_change(one, "old", "new", "by")
            if type(wanted) is tuple:
                with self.assertRaises(wanted[0]) as caught:
                    changed(one, "old", "new", "by")
                self.assertEqual(caught.exception.who, wanted[1])
                ends.append(wanted[0])
                continue
            told = changed(one, "old", "new", "by")
            self.check(one, told, wanted)
            ends.append(None)
        self.assertGreater(min(ends.count(end) for end in [None, Dry, NoFeel]), 10)

    def check(self, one, told, wanted):
        self.assertIs(type(told), Book)
        self.assertEqual((told.stuffs(), told.doughs()), (one.stuffs(), one.doughs()))
        self.assertEqual([told.stuff(name) for name in told.stuffs()], [one.stuff(name) for name in one.stuffs()])
        for name in one.doughs():
            self.assertEqual(told.dough(name).lead(), one.dough(name).lead())
            self.assertEqual(told.dough(name).rows(), [(thing, pair(parts)) for thing, parts in wanted[name].items()])
            if "old" in reckoned(one, name) and "by" in dict(one.dough(name).rows()):
                self.assertEqual(feel(told, name), feel(one, name))
            self.assertNotIn("old", reckoned(told, name))

    def test_changed_back_all_is_as_it_was(self):
        tried = 0
        for one in [book(), *some_changes()]:
            old, new, by = ("wheat", "seed", "water") if "wheat" in one.stuffs() else ("old", "new", "by")
            if any(new in reckoned(one, name) for name in one.doughs()):
                continue
            try:
                told = changed(one, old, new, by)
            except (Dry, NoFeel):
                continue
            if any(len(told.dough(name)) < len(one.dough(name)) for name in one.doughs()):
                continue
            tried += 1
            self.assertEqual(changed(told, new, old, by), one)
        self.assertGreater(tried, 15)

    def test_what_is_handed_in_stays(self):
        one = book()
        told = changed(one, "wheat", "rye", "water")
        self.assertEqual(one, book())
        self.assertEqual(changed(one, "wheat", "rye", "water"), told)
        one.dough("loaf").rows().clear()
        self.assertEqual(changed(one, "wheat", "rye", "water"), told)
        self.assertEqual(changed(Book(PLAIN, []), "old", "new", "by"), Book(PLAIN, []))

    def test_parts_of_nine_figures(self):
        one = Book(PLAIN, [Dough("a", [("old", (999999999, 999999998)), ("by", (999999997, 999999996))])])
        told = changed(one, "old", "new", "by").dough("a").rows()
        self.assertEqual(told, [("new", (999999999, 999999998)), ("by", (999999997, 1999999992))])
        self.assertTrue(is_fraction(told[1][1]))


class TestRefused(Changes):
    def test_no_name_who_the_first(self):
        for thing in [*odd_things(), *NAMELESS]:
            self.no_name(thing, changed, book(), thing, "rye", "water")
            self.no_name(thing, changed, book(), "rye", thing, "water")
            self.no_name(thing, changed, book(), "wheat", "rye", thing)
            self.no_name(thing, changed, book(), thing, "oil", "loaf")
            self.no_name(thing, changed, book(), "rye", thing, "oil")
            self.no_name(thing, changed, by=thing, new="rye", old="wheat", book=book())

    def test_no_name_ahead_of_no_by(self):
        for thing in [*odd_things(), *NAMELESS]:
            self.no_name(thing, changed, book(), thing, "rye", "rye")
            self.no_name(thing, changed, book(), thing, thing, thing)
            self.no_name(thing, changed, book(), "rye", thing, "rye")
            self.no_name(thing, changed, book(), "rye", "rye", thing)
            self.no_name(thing, changed, book(), thing, "rye", "salt")

    def test_two_of_the_three_are_one(self):
        for given in [("rye", "rye", "water"), ("water", "rye", "water"), ("rye", "water", "water"), ("water",) * 3]:
            self.no_by(book(), *given)

    def test_by_without_water_or_with_a_thirst(self):
        more = [Stuff("mash", water=(1, 2), thirst=(1, 9)), Stuff("drop", water=(1, 999999999999))]
        one = Book([*stuffs(), *more], doughs())
        for by in ["salt", "seed", "mash"]:
            self.no_by(one, "wheat", "rye", by)
        self.assertEqual(len(changed(one, "wheat", "rye", "drop")), 6)
        self.assertEqual(len(changed(one, "wheat", "rye", "milk")), 6)

    def test_no_by_ahead_of_no_feel_and_dry(self):
        one = Book(PLAIN, [of("a", old=2, wet=3, by=1), of("b", salt=1, by=1)])
        for given in [("old", "new", "salt"), ("old", "old", "by"), ("old", "by", "by"), ("old", "new", "meal")]:
            self.no_by(one, *given)
        self.no_name("a", changed, one, "old", "new", "a")
        with self.assertRaises(Dry):
            changed(one, "old", "new", "by")

    def test_a_refusal_changes_nothing(self):
        one = Book(PLAIN, [of("b", old=1, by=2), of("a", b=2, wet=3, by=1)])
        for given in [("old", "new", "salt"), ("old", "new", "oil"), ("old", "new", "by")]:
            with self.assertRaises(ValueError):
                changed(one, *given)
            self.assertEqual(one, Book(PLAIN, [of("b", old=1, by=2), of("a", b=2, wet=3, by=1)]))


class TestMoves(Refusals):
    def test_of_a_book_to_itself(self):
        for one in [book(), Book([], []), *some_books()]:
            self.assertEqual(moves(one, one), [])
        self.assertEqual(moves(book(), book()), [])

    def test_other_parts(self):
        one = Book(PLAIN, [of("b", old=1, salt=2), of("a", b=1, wet=3)])
        other = Book(PLAIN, [of("b", old=1, salt=Fraction(1, 2)), of("a", b=2, wet=3)])
        self.assertEqual(moves(one, other), [("b", "salt", (2, 1), (1, 2)), ("a", "b", (1, 1), (2, 1))])
        self.assertEqual(moves(other=one, book=other), [("b", "salt", (1, 2), (2, 1)), ("a", "b", (2, 1), (1, 1))])

    def test_rows_less_and_rows_more(self):
        one = Book(PLAIN, [of("a", wet=3, old=1, salt=2, by=1)])
        other = Book(PLAIN, [of("a", new=4, salt=3, meal=5, old=1)])
        wanted = [
            ("a", "wet", (3, 1), (0, 1)), ("a", "salt", (2, 1), (3, 1)), ("a", "by", (1, 1), (0, 1)),
            ("a", "new", (0, 1), (4, 1)), ("a", "meal", (0, 1), (5, 1)),
        ]
        self.assertEqual(moves(one, other), wanted)

    def test_another_order_and_other_leads_are_no_moves(self):
        one = Book(PLAIN, [of("a", 1, old=1, salt=2, wet=3), of("b", 2, a=1, by=4)])
        other = Book(PLAIN[::-1], [of("b", 9, by=4, a=1), of("a", 99, wet=3, old=1, salt=2)])
        self.assertEqual(moves(one, other), [])
        self.assertEqual(moves(other, one), [])

    def test_as_the_one_has_the_doughs(self):
        one = Book(PLAIN, [of("b", old=1), of("c", old=1), of("a", old=1)])
        other = Book(PLAIN[:4], [of("a", old=2), of("b", old=2), of("c", old=2)])
        self.assertEqual([move[0] for move in moves(one, other)], ["b", "c", "a"])
        self.assertEqual([move[0] for move in moves(other, one)], ["a", "b", "c"])

    def test_of_a_change(self):
        told = moves(book(), changed(book(), "wheat", "rye", "water"))
        self.assertEqual(told, [
            ("loaf", "wheat", (6, 1), (0, 1)), ("loaf", "water", (2, 1), (272, 97)), ("loaf", "rye", (0, 1), (6, 1)),
            ("sponge", "wheat", (2, 1), (0, 1)), ("sponge", "water", (3, 2), (2, 1)), ("sponge", "rye", (0, 1), (2, 1)),
            ("roll", "wheat", (2, 3), (0, 1)), ("roll", "rye", (0, 1), (2, 3)),
        ])

    def test_kinds(self):
        told = moves(book(), other_book())
        self.assertIs(type(told), list)
        for move in told:
            self.assertEqual([type(move), type(move[2]), type(move[3])], [tuple] * 3)

    def test_by_chance(self):
        random = Random(31)
        for one in some_books():
            made = []
            for name in one.doughs():
                rows = [(stuff, some_fraction(random, 1)) for stuff in one.stuffs() if random.random() < 0.4][:4]
                rows += [row for row in one.dough(name).rows() if row[0] not in dict(rows) and random.random() < 0.6]
                random.shuffle(rows)
                made.append(Dough(name, rows[:8] or one.dough(name).rows()))
            random.shuffle(made)
            other = Book([one.stuff(name) for name in one.stuffs()], made)
            self.check(one, other, moves(one, other))
            self.check(other, one, moves(other, one))

    def check(self, one, other, told):
        wanted = []
        for name in one.doughs():
            ahead, behind = one.dough(name).rows(), other.dough(name).rows()
            for thing, parts in ahead:
                if dict(behind).get(thing) != parts:
                    wanted.append((name, thing, parts, dict(behind).get(thing, (0, 1))))
            wanted += [(name, thing, (0, 1), parts) for thing, parts in behind if thing not in dict(ahead)]
        self.assertEqual(told, wanted)

    def test_told_lists(self):
        one, other = book(), other_book()
        first, second = moves(one, other), moves(one, other)
        wanted = moves(book(), other_book())
        first.clear()
        self.assertEqual(second, wanted)
        second.append(None)
        self.assertEqual(moves(one, other), wanted)
        self.assertEqual((one, other), (book(), other_book()))

    def test_no_name(self):
        one = Book(PLAIN, [of("c", old=1), of("a", old=1), of("d", old=1)])
        other = Book(PLAIN, [of("d", old=1), of("c", old=2), of("b", old=1)])
        for ahead, behind, who in [
            (one, other, "a"), (other, one, "a"), (Book(PLAIN, []), one, "a"), (other, Book([], []), "b"),
            (Book(PLAIN, [of("d", old=1)]), other, "b"), (Book(PLAIN, [of("d", old=1), of("b", old=1)]), other, "c"),
            (other, Book(PLAIN, [of("d", old=1), of("b", old=1)]), "c"), (book(), one, "a"), (book(), book().put(of("z", rye=1)), "z"),
        ]:
            for call in [lambda: moves(ahead, behind), lambda: moves(behind, ahead)]:
                with self.assertRaises(ValueError) as caught:
                    call()
                self.assertEqual((type(caught.exception).__name__, caught.exception.who), ("NoName", who))


if __name__ == "__main__":
    unittest.main()
