"""Books: [8], [9], and of [2] and [3] what is told of them."""

import inspect
import itertools
import unittest

from breads import book, doughs, some_books, stuffs
from loafshares.books import Book
from loafshares.doughs import Dough
from loafshares.errors import NoName, Ring, Twice, Unknown
from loafshares.stuffs import Stuff
from refusals import Refusals
from things import odd_things

STUFFS = ["wheat", "rye", "water", "salt", "milk", "seed"]
DOUGHS = ["loaf", "sour", "sponge", "roll", "brine", "soak"]
RYE = Stuff("rye", (1, 1))


def of(name, *things):
    """A dough with one part of each thing."""
    return Dough(name, [(thing, (1, 1)) for thing in things])


def told(one):
    """All that a book tells."""
    stuffs_told = [one.stuff(name) for name in one.stuffs()]
    doughs_told = [one.dough(name) for name in one.doughs()]
    within = [one.within(name) for name in one.doughs()]
    return (one.stuffs(), one.doughs(), stuffs_told, doughs_told, within, one.making(one.doughs()), len(one))


def inner_of(one, name):
    """The doughs that a dough has rows of."""
    return [thing for thing, _ in one.dough(name).rows() if thing in one.doughs()]


def reckoned_within(one, name):
    found = set()
    for thing in inner_of(one, name):
        found |= {thing, *reckoned_within(one, thing)}
    return found


class TestMade(unittest.TestCase):
    def test_interface(self):
        self.assertEqual(Book.__module__, "loafshares.books")
        self.assertEqual(list(inspect.signature(Book).parameters), ["stuffs", "doughs"])
        arguments = {"stuffs": [], "doughs": [], "stuff": ["name"], "dough": ["name"], "within": ["name"],
                     "making": ["names"], "put": ["thing"], "__eq__": ["other"], "__len__": []}
        for method, names in arguments.items():
            self.assertEqual(list(inspect.signature(vars(Book)[method]).parameters)[1:], names)

    def test_of_nothing(self):
        for empty in [Book([], []), Book((), ()), Book(stuffs=[], doughs=[])]:
            self.assertEqual(told(empty), ([], [], [], [], [], [], 0))

    def test_of_stuffs_alone(self):
        one = Book(stuffs(), [])
        self.assertEqual(told(one), (STUFFS, [], stuffs(), [], [], [], 0))

    def test_of_stuffs_and_doughs(self):
        one = book()
        self.assertEqual(one.stuffs(), STUFFS)
        self.assertEqual(one.doughs(), DOUGHS)
        self.assertEqual([one.stuff(name) for name in STUFFS], stuffs())
        self.assertEqual([one.dough(name) for name in DOUGHS], doughs())
        self.assertEqual(len(one), 6)

    def test_by_names_and_of_tuples(self):
        for one in [Book(stuffs=stuffs(), doughs=doughs()), Book(doughs=doughs(), stuffs=stuffs()),
                    Book(tuple(stuffs()), tuple(doughs()))]:
            self.assertEqual(told(one), told(book()))

    def test_doughs_in_any_order(self):
        four = [of("a", "b", "d", "rye"), of("b", "c"), of("c", "rye"), of("d", "c", "b")]
        for order in itertools.permutations(four):
            one = Book([RYE], list(order))
            self.assertEqual(one.doughs(), [dough.name() for dough in order])
            self.assertEqual([one.within(name) for name in "abcd"], [["b", "c", "d"], ["c"], [], ["b", "c"]])

    def test_twelve_stuffs_and_eleven_doughs(self):
        many = [Stuff(letter) for letter in "abcdefghijkl"]
        chain = [of("m" + letter, "m" + chr(ord(letter) + 1)) for letter in "abcdefghij"] + [of("mk", *"abcdefgh")]
        one = Book(many, chain)
        self.assertEqual((len(one.stuffs()), len(one)), (12, 11))
        self.assertEqual(one.within("ma"), ["m" + letter for letter in "bcdefghijk"])
        self.assertEqual(one.making(["ma"]), ["m" + letter for letter in "kjihgfedcba"])

    def test_the_very_ones(self):
        own_stuffs, own_doughs = stuffs(), doughs()
        one = Book(own_stuffs, own_doughs)
        for stuff in own_stuffs:
            self.assertIs(one.stuff(stuff.name()), stuff)
            self.assertIs(one.stuff(name=stuff.name()), stuff)
        for dough in own_doughs:
            self.assertIs(one.dough(dough.name()), dough)
            self.assertIs(one.dough(name=dough.name()), dough)

    def test_asked_again(self):
        one = book()
        self.assertEqual([told(one) for _ in range(3)], [told(book())] * 3)

    def test_of_two_neither_knows_of_the_other(self):
        one, other = book(), Book([RYE], [of("loaf", "rye")])
        self.assertEqual(told(one), told(book()))
        self.assertEqual(told(other), (["rye"], ["loaf"], [RYE], [of("loaf", "rye")], [[]], ["loaf"], 1))


class TestWithin(unittest.TestCase):
    def test_within(self):
        one = book()
        wanted = {"loaf": ["sour", "sponge"], "sour": [], "sponge": ["sour"], "roll": [], "brine": [], "soak": ["brine"]}
        self.assertEqual({name: one.within(name) for name in DOUGHS}, wanted)
        self.assertEqual(one.within(name="loaf"), ["sour", "sponge"])

    def test_by_chance(self):
        for one in some_books():
            for name in one.doughs():
                self.assertEqual(one.within(name), sorted(reckoned_within(one, name)))


class TestCopies(unittest.TestCase):
    def test_what_is_done_to_handed_lists(self):
        own_stuffs, own_doughs = stuffs(), doughs()
        one = Book(own_stuffs, own_doughs)
        self.assertEqual((own_stuffs, own_doughs), (stuffs(), doughs()))
        own_stuffs.append(Stuff("oil"))
        own_doughs[0] = of("loaf", "rye")
        self.assertEqual(told(one), told(book()))
        own_stuffs.clear()
        own_doughs.clear()
        self.assertEqual(told(one), told(book()))

    def test_what_is_done_to_told_ones(self):
        one = book()
        calls = [one.stuffs, one.doughs, lambda: one.within("loaf"), lambda: one.making(["loaf"])]
        for call in calls:
            first, second, wanted = call(), call(), call()
            self.assertIs(type(first), list)
            first.clear()
            self.assertEqual(second, wanted)
            second.append("rye")
            self.assertEqual(call(), wanted)
            self.assertEqual(told(one), told(book()))

    def test_what_is_done_to_names_for_making(self):
        one = book()
        names = ["loaf", "sour", "loaf"]
        order = one.making(names)
        self.assertEqual(names, ["loaf", "sour", "loaf"])
        names.clear()
        self.assertEqual(order, ["sour", "sponge", "loaf"])
        nothing = []
        one.making(nothing).append("loaf")
        self.assertEqual((nothing, one.making([])), ([], []))


class TestEqual(unittest.TestCase):
    def unequal(self, other):
        self.assertIs(book() == other, False)
        self.assertIs(other == book(), False)
        self.assertIs(book() != other, True)

    def test_made_alike(self):
        one = book()
        self.assertIs(one == one, True)
        self.assertIs(one == book(), True)
        self.assertIs(one != book(), False)
        self.assertIs(Book([], []) == Book((), ()), True)

    def test_order_counts(self):
        self.unequal(Book(stuffs()[::-1], doughs()))
        self.unequal(Book(stuffs(), doughs()[::-1]))
        self.unequal(Book([stuffs()[1], stuffs()[0], *stuffs()[2:]], doughs()))

    def test_one_more_and_one_less(self):
        self.unequal(Book([*stuffs(), Stuff("oil")], doughs()))
        self.unequal(Book(stuffs(), [*doughs(), of("bun", "rye")]))
        self.unequal(Book(stuffs(), doughs()[:-1]))
        self.unequal(Book(stuffs(), []))
        self.unequal(Book([], []))

    def test_another_stuff_or_dough_of_the_same_name(self):
        self.unequal(Book([*stuffs()[:-1], Stuff("seed")], doughs()))
        self.unequal(Book(stuffs(), [*doughs()[:-1], Dough("soak", doughs()[-1].rows(), 2)]))

    def test_a_name_of_the_other_kind(self):
        self.assertIs(Book([Stuff("rye")], []) == Book([], []), False)
        self.assertIs(Book([RYE, Stuff("a")], []) == Book([RYE], [of("a", "rye")]), False)

    def test_things_that_are_no_books(self):
        for thing in [*odd_things(), None, (stuffs(), doughs()), [stuffs(), doughs()], Book, RYE, of("loaf", "rye")]:
            self.assertIs(book() == thing, False)
            self.assertIs(book() != thing, True)
            self.assertIs(Book([], []) == thing, False)


class TestNoName(Refusals):
    def test_of_anything(self):
        one = book()
        others = [None, "oil", "Loaf", "loaf ", "", "loafs", ["loaf"], ("loaf",), {"loaf"}, RYE, of("loaf", "rye")]
        for thing in [*odd_things(), *others]:
            for call in [one.stuff, one.dough, one.within]:
                self.no_name(thing, call, thing)
                self.no_name(thing, call, name=thing)
            self.no_name(thing, one.making, [thing])
        self.assertEqual(told(one), told(book()))

    def test_names_of_the_other_kind(self):
        one = book()
        for name in DOUGHS:
            self.no_name(name, one.stuff, name)
        for name in STUFFS:
            self.no_name(name, one.dough, name)
            self.no_name(name, one.within, name)
            self.no_name(name, one.making, [name])

    def test_a_book_of_nothing(self):
        empty = Book([], [])
        for call in [empty.stuff, empty.dough, empty.within]:
            self.no_name("rye", call, "rye")
        self.no_name("rye", empty.making, ["rye"])

    def test_the_first_one_of_several(self):
        one = book()
        things = [None, ["loaf"], "rye", "oil"]
        for order in itertools.permutations(things):
            self.no_name(order[0], one.making, ["loaf", "sour", *order, "soak"])
            self.no_name(order[0], one.making, tuple(order))

    def test_what_was_handed_in_stays(self):
        names = ["loaf", ["sour"], "soak"]
        with self.assertRaises(NoName) as caught:
            book().making(names)
        self.assertEqual((names, caught.exception.who), (["loaf", ["sour"], "soak"], ["sour"]))


class TestRefusedBooks(Refusals):
    def test_twice(self):
        self.twice("rye", Book, [RYE, RYE], [])
        self.twice("rye", Book, [RYE, Stuff("salt"), Stuff("rye")], [])
        self.twice("a", Book, [RYE], [of("a", "rye"), of("a", "rye")])
        self.twice("rye", Book, [RYE], [of("rye", "rye")])
        self.twice("rye", Book, [RYE], [of("a", "rye"), of("rye", "a")])

    def test_the_first_name_that_one_ahead_has(self):
        self.twice("b", Book, [Stuff(name) for name in "abba"], [])
        self.twice("a", Book, [Stuff(name) for name in "abab"], [])
        self.twice("b", Book, [Stuff("a"), Stuff("b"), Stuff("b")], [of("a", "b"), of("a", "b")])
        self.twice("c", Book, [Stuff("a"), Stuff("b")], [of("c", "a"), of("c", "a"), of("a", "b")])
        self.twice("b", Book, [Stuff("a"), Stuff("b")], [of("c", "a"), of("b", "a"), of("a", "b")])

    def test_unknown(self):
        self.unknown("a", "rye", Book, [], [of("a", "rye")])
        self.unknown("a", "salt", Book, [RYE], [of("a", "rye", "salt")])
        self.unknown("b", "oil", Book, [RYE], [of("a", "b"), of("b", "rye", "oil")])
        self.unknown("b", "ry", Book, [RYE], [of("a", "rye"), of("b", "ry")])

    def test_the_first_row_dough_by_dough(self):
        self.unknown("c", "y", Book, [RYE], [of("b", "rye", "c"), of("c", "rye", "y", "x"), of("a", "w")])
        self.unknown("a", "w", Book, [RYE], [of("a", "w"), of("c", "rye", "y", "x"), of("b", "rye")])

    def test_a_dough_with_a_row_of_itself(self):
        for made in [[of("a", "a")], [of("a", "rye", "a")], [of("b", "rye"), of("a", "b", "a", "rye")],
                     [of("b", "a"), of("a", "a")]]:
            self.assertEqual(self.ring(made, Book, [RYE], made), ("a",))

    def test_rings_of_two_and_more(self):
        for many in range(2, 12):
            names = "abcdefghijk"[:many]
            made = [of(name, "rye", names[(at + 1) % many]) for at, name in enumerate(names)]
            for order in [made, made[::-1], made[1:] + made[:1]]:
                self.assertEqual(sorted(self.ring(order, Book, [RYE], order)), list(names))

    def test_rings_beside_others(self):
        inner, outer = of("z", "rye"), of("y", "rye", "a", "z")
        ring = [of("a", "z", "b"), of("b", "rye", "c", "z"), of("c", "z", "a")]
        for made in itertools.permutations([inner, outer, *ring]):
            self.assertEqual(sorted(self.ring(made, Book, [RYE], list(made))), ["a", "b", "c"])

    def test_several_rings(self):
        made = [of("a", "b", "rye", "c"), of("b", "a"), of("c", "d"), of("d", "c", "a"), of("e", "e", "a")]
        for order in itertools.permutations(made):
            names = self.ring(order, Book, [RYE], list(order))
            self.assertIn("".join(sorted(names)), ["ab", "cd", "acd", "e"])

    def test_several_due_at_once(self):
        self.twice("rye", Book, [RYE, RYE], [of("a", "oil"), of("b", "b")])
        self.twice("b", Book, [RYE], [of("a", "oil"), of("b", "b"), of("b", "rye")])
        self.twice("b", Book, [RYE], [of("b", "b"), of("b", "oil")])
        self.unknown("c", "oil", Book, [RYE], [of("a", "b"), of("b", "a"), of("c", "oil")])
        self.unknown("b", "oil", Book, [RYE], [of("b", "b", "oil")])
        self.ring([of("b", "b"), of("a", "rye")], Book, [RYE], [of("b", "b"), of("a", "rye")])

    def test_a_refusal_changes_nothing(self):
        one, own_stuffs, own_doughs = book(), stuffs(), [*doughs(), of("bun", "oil")]
        self.unknown("bun", "oil", Book, own_stuffs, own_doughs)
        self.assertEqual((own_stuffs, own_doughs), (stuffs(), [*doughs(), of("bun", "oil")]))
        for given in [([RYE, RYE], []), ([], [of("a", "oil")]), ([], [of("a", "a")])]:
            with self.assertRaises((Twice, Unknown, Ring)):
                one.__init__(*given)
            self.assertEqual(told(one), told(book()))


class TestPut(Refusals):
    def test_a_new_stuff(self):
        oil = Stuff("oil", price=(9, 1))
        made = book().put(oil)
        self.assertIsInstance(made, Book)
        self.assertEqual(made, Book([*stuffs(), oil], doughs()))
        self.assertIs(made.stuff("oil"), oil)
        self.assertEqual(book().put(thing=oil), made)

    def test_a_new_dough(self):
        bun = of("bun", "loaf", "milk")
        made = book().put(bun)
        self.assertEqual(made, Book(stuffs(), [*doughs(), bun]))
        self.assertIs(made.dough("bun"), bun)
        self.assertEqual(made.within("bun"), ["loaf", "sour", "sponge"])
        self.assertEqual(len(made), 7)

    def test_into_a_book_of_nothing(self):
        empty = Book([], [])
        made = empty.put(RYE).put(of("a", "rye"))
        self.assertEqual(made, Book([RYE], [of("a", "rye")]))
        self.assertEqual(empty, Book([], []))

    def test_a_stuff_in_the_place_of_an_elder_one(self):
        for at, name in enumerate(STUFFS):
            stuff = Stuff(name, price=(8, 9))
            wanted = stuffs()
            wanted[at] = stuff
            made = book().put(stuff)
            self.assertEqual(made, Book(wanted, doughs()))
            self.assertIs(made.stuff(name), stuff)

    def test_a_dough_in_the_place_of_an_elder_one(self):
        for at, name in enumerate(DOUGHS):
            dough = of(name, "rye", "milk")
            wanted = doughs()
            wanted[at] = dough
            made = book().put(dough)
            self.assertEqual(made, Book(stuffs(), wanted))
            self.assertIs(made.dough(name), dough)
            self.assertEqual(made.within(name), [])

    def test_the_others_are_the_very_ones(self):
        one = book()
        made = one.put(of("sour", "rye")).put(Stuff("milk"))
        for name in ["loaf", "sponge", "roll", "brine", "soak"]:
            self.assertIs(made.dough(name), one.dough(name))
        for name in ["wheat", "rye", "water", "salt", "seed"]:
            self.assertIs(made.stuff(name), one.stuff(name))

    def test_the_book_ahead_stays(self):
        one = book()
        for thing in [Stuff("oil"), Stuff("rye"), of("bun", "rye"), of("sour", "milk"), of("loaf", "soak")]:
            made = one.put(thing)
            self.assertNotEqual(made, one)
            self.assertEqual(told(one), told(book()))
        self.assertEqual(one.put(stuffs()[0]).put(doughs()[0]), one)

    def test_a_name_of_the_other_kind(self):
        one = book()
        for name in DOUGHS:
            self.twice(name, one.put, Stuff(name))
        for name in STUFFS:
            self.twice(name, one.put, of(name, "rye"))
            self.twice(name, one.put, of(name, "oil"))
            self.twice(name, one.put, of(name, name))
        self.assertEqual(told(one), told(book()))

    def test_unknown(self):
        one = book()
        self.unknown("bun", "oil", one.put, of("bun", "rye", "oil", "fat"))
        self.unknown("sour", "fat", one.put, of("sour", "loaf", "fat"))
        self.assertEqual(told(one), told(book()))

    def test_ring(self):
        one = book()
        for dough in [of("bun", "bun"), of("sour", "loaf"), of("sour", "rye", "sponge"), of("brine", "soak", "milk")]:
            made = [other for other in doughs() if other.name() != dough.name()] + [dough]
            self.assertIn(dough.name(), self.ring(made, one.put, dough))
        self.assertEqual(told(one), told(book()))

    def test_a_dough_that_others_are_then_no_more_within(self):
        made = book().put(of("sponge", "wheat")).put(of("sour", "sponge"))
        self.assertEqual(made.within("sour"), ["sponge"])
        self.assertEqual(made.making(["loaf"]), ["sponge", "sour", "loaf"])


class TestMaking(unittest.TestCase):
    def test_of_none(self):
        self.assertEqual(book().making([]), [])
        self.assertEqual(book().making(()), [])
        self.assertEqual(Book([], []).making([]), [])

    def test_of_one(self):
        wanted = {"loaf": ["sour", "sponge", "loaf"], "sour": ["sour"], "sponge": ["sour", "sponge"], "roll": ["roll"],
                  "brine": ["brine"], "soak": ["brine", "soak"]}
        for name in DOUGHS:
            self.assertEqual(book().making([name]), wanted[name])
            self.assertEqual(book().making(names=(name,)), wanted[name])

    def test_of_all(self):
        wanted = ["brine", "roll", "soak", "sour", "sponge", "loaf"]
        for order in itertools.permutations(DOUGHS):
            self.assertEqual(book().making(list(order)), wanted)
        self.assertEqual(Book(stuffs(), doughs()[::-1]).making(DOUGHS), wanted)

    def test_of_names_twice(self):
        self.assertEqual(book().making(["soak", "soak"]), ["brine", "soak"])
        self.assertEqual(book().making(["soak", "brine", "soak", "brine"]), ["brine", "soak"])
        self.assertEqual(book().making(("loaf", "sour") * 4), ["sour", "sponge", "loaf"])

    def test_of_doughs_that_share_inner_ones(self):
        self.assertEqual(book().making(["sponge", "loaf"]), ["sour", "sponge", "loaf"])
        one = Book([RYE], [of("a", "d", "e"), of("b", "e"), of("c", "b", "d"), of("d", "rye"), of("e", "d")])
        self.assertEqual(one.making(["c"]), ["d", "e", "b", "c"])
        self.assertEqual(one.making(["a", "b"]), ["d", "e", "a", "b"])
        self.assertEqual(one.making(["a", "b", "c"]), ["d", "e", "a", "b", "c"])

    def test_where_several_can_stand_next(self):
        flat = Book([RYE], [of(name, "rye") for name in ["b", "ab", "a", "abc", "c"]])
        self.assertEqual(flat.making(["c", "abc", "b", "ab", "a"]), ["a", "ab", "abc", "b", "c"])
        one = Book([RYE], [of("a", "z"), of("b", "rye"), of("z", "rye"), of("c", "a"), of("y", "b")])
        self.assertEqual(one.making(["a", "b"]), ["b", "z", "a"])
        self.assertEqual(one.making(["y", "c"]), ["b", "y", "z", "a", "c"])
        self.assertEqual(one.making(["c", "b"]), ["b", "z", "a", "c"])

    def test_the_least_of_all_orders(self):
        for one in some_books():
            names = one.doughs()[:3]
            wanted = set(names).union(*[reckoned_within(one, name) for name in names])
            if len(wanted) > 7:
                continue
            fit = []
            for order in itertools.permutations(sorted(wanted)):
                if all(order.index(thing) < order.index(name) for name in order for thing in inner_of(one, name)):
                    fit.append(list(order))
            self.assertEqual(one.making(names), min(fit))

    def test_by_chance(self):
        for one in some_books():
            waiting, made = set(one.doughs()), []
            while waiting:
                made.append(min(name for name in waiting if not waiting.intersection(inner_of(one, name))))
                waiting.remove(made[-1])
            self.assertEqual(one.making(one.doughs()), made)


if __name__ == "__main__":
    unittest.main()
