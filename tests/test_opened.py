"""What doughs come to: [10], and of [2], [3] and [4] what is told of it."""

import inspect
import math
import unittest

from breads import book, other_book, pair, reckoned, reckoned_measure, some_books
from loafshares import opened as module
from loafshares.books import Book
from loafshares.doughs import Dough
from loafshares.fractions import is_fraction, plus
from loafshares.opened import measured, opened
from loafshares.stuffs import Stuff
from refusals import Refusals
from things import odd_things

WORDS = ["flour", "water", "salt", "thirst", "price"]
DOUGHS = ["loaf", "sour", "sponge", "roll", "brine", "soak"]
NAMELESS = [None, "", "oil", "rye", "Loaf", "loaf ", ["loaf"], ("loaf",), {"loaf"}, b"loaf"]


def as_pairs(numbers):
    return {name: pair(number) for name, number in numbers.items()}


def together(fractions):
    total = (0, 1)
    for one in fractions:
        total = plus(total, one)
    return total


class TestOpened(unittest.TestCase):
    def test_interface(self):
        self.assertEqual(list(inspect.signature(opened).parameters), ["book", "dough"])
        self.assertEqual(list(inspect.signature(measured).parameters), ["book", "dough", "word"])
        self.assertEqual((opened.__module__, measured.__module__), ("loafshares.opened",) * 2)

    def test_of_stuffs_alone(self):
        self.assertEqual(opened(book(), "sour"), {"rye": (1, 2), "water": (1, 2)})
        self.assertEqual(opened(book(), "roll"), {"milk": (1, 3), "wheat": (2, 3)})
        self.assertEqual(opened(book(), "brine"), {"water": (9, 10), "salt": (1, 10)})
        self.assertEqual(opened(Book([Stuff("rye")], [Dough("a", [("rye", (7, 3))])]), "a"), {"rye": (1, 1)})

    def test_of_doughs_within_doughs(self):
        self.assertEqual(opened(book(), "soak"), {"seed": (1, 3), "water": (3, 5), "salt": (1, 15)})
        self.assertEqual(opened(book(), "sponge"), {"wheat": (1, 2), "rye": (1, 16), "water": (7, 16)})

    def test_of_an_inner_one_shared_by_two_rows_doughs(self):
        # 117/10 parts: sponge has 3, of which 3/2 are wheat, 3/16 rye, 21/16 water; sour has 1/2
        wanted = {"wheat": (25, 39), "rye": (35, 936), "water": (95, 312), "salt": (2, 117)}
        self.assertEqual(opened(book(), "loaf"), wanted)

    def test_a_row_of_a_stuff_beside_a_dough_of_it_alone(self):
        one = Book([Stuff("rye")], [Dough("a", [("b", (1, 2)), ("rye", (3, 1))]), Dough("b", [("rye", (5, 1))])])
        self.assertEqual(opened(one, "a"), {"rye": (1, 1)})

    def test_by_names(self):
        self.assertEqual(opened(dough="sour", book=book()), {"rye": (1, 2), "water": (1, 2)})

    def test_parts_of_nine_figures_deep_within(self):
        stuffs = [Stuff(letter) for letter in "abcdefg"]
        large = [(999999999, 1), (1, 999999999), (999999998, 999999997), (123456789, 1000), (7, 987654321)]
        doughs = [Dough("mk", list(zip("abcdefg", large)))]
        for letter in "jihgfedcba":
            inner = doughs[-1].name()
            doughs.append(Dough("m" + letter, [(inner, (999999999, 999999998)), *zip("gfedcba", large)]))
        one = Book(stuffs, doughs)
        for name in ["mk", "mj", "me", "ma"]:
            self.assertEqual(opened(one, name), as_pairs(reckoned(one, name)))
            self.assertEqual(together(opened(one, name).values()), (1, 1))

    def test_by_chance(self):
        for one in some_books():
            for name in one.doughs():
                self.assertEqual(opened(one, name), as_pairs(reckoned(one, name)))

    def test_kinds_lowest_terms_and_1_together(self):
        for one in some_books():
            for name in one.doughs():
                told = opened(one, name)
                self.assertIs(type(told), dict)
                self.assertEqual(together(told.values()), (1, 1))
                for stuff, share in told.items():
                    self.assertIn(stuff, one.stuffs())
                    self.assertTrue(is_fraction(share) and share[0] > 0)
                    self.assertEqual(math.gcd(*share), 1)

    def test_a_told_dict_is_the_askers_own(self):
        one = book()
        for name in DOUGHS:
            first, second, wanted = opened(one, name), opened(one, name), opened(book(), name)
            first.clear()
            self.assertEqual(second, wanted)
            second["rye"] = (9, 1)
            self.assertEqual([opened(one, other) for other in DOUGHS], [opened(book(), other) for other in DOUGHS])
            self.assertEqual(measured(one, name, "flour"), measured(book(), name, "flour"))

    def test_asked_again_and_of_another_book(self):
        one, other = book(), other_book()
        for name in DOUGHS:
            wanted = opened(book(), name)
            self.assertEqual(opened(one, name), wanted)
            self.assertEqual(opened(other, name), {"milk": (1, 3), "rye": (2, 3)})
            self.assertEqual(opened(one, name), wanted)
            self.assertEqual(measured(other, name, "water"), (3, 10))
            self.assertEqual(measured(one, name, "water"), pair(reckoned_measure(book(), name, "water")))

    def test_behind_a_put(self):
        one = book()
        put = one.put(Dough("sour", [("milk", (1, 1))]))
        self.assertEqual(opened(put, "sponge"), {"wheat": (1, 2), "milk": (1, 8), "water": (3, 8)})
        self.assertEqual(opened(one, "sponge"), {"wheat": (1, 2), "rye": (1, 16), "water": (7, 16)})

    def test_the_book_stays(self):
        one = book()
        opened(one, "loaf")
        measured(one, "loaf", "salt")
        self.assertEqual(one, book())
        self.assertEqual(one.making(one.doughs()), book().making(book().doughs()))

    def test_nothing_is_kept_beside_the_functions(self):
        ahead = {name: repr(thing) for name, thing in vars(module).items() if name != "__builtins__"}
        opened(book(), "loaf")
        behind = {name: repr(thing) for name, thing in vars(module).items() if name != "__builtins__"}
        self.assertEqual(behind, ahead)


class TestMeasured(unittest.TestCase):
    def test_the_five_words(self):
        wanted = {"flour": (1, 2), "water": (1, 2), "salt": (0, 1), "thirst": (2, 5), "price": (3, 2)}
        self.assertEqual({word: measured(book(), "sour", word) for word in WORDS}, wanted)
        wanted = {"flour": (2, 3), "water": (3, 10), "salt": (0, 1), "thirst": (2, 5), "price": (7, 4)}
        self.assertEqual({word: measured(book(), "roll", word) for word in WORDS}, wanted)
        wanted = {"flour": (0, 1), "water": (3, 5), "salt": (1, 15), "thirst": (1, 12), "price": (1, 30)}
        self.assertEqual({word: measured(book(), "soak", word) for word in WORDS}, wanted)
        wanted = {"flour": (635, 936), "water": (95, 312), "salt": (2, 117), "thirst": (97, 234), "price": (101, 72)}
        self.assertEqual({word: measured(book(), "loaf", word) for word in WORDS}, wanted)

    def test_by_names(self):
        self.assertEqual(measured(word="thirst", dough="sour", book=book()), (2, 5))

    def test_by_chance(self):
        for one in some_books():
            for name in one.doughs():
                for word in WORDS:
                    told = measured(one, name, word)
                    self.assertEqual(told, pair(reckoned_measure(one, name, word)))
                    self.assertTrue(is_fraction(told))


class TestRefused(Refusals):
    def test_no_dough_of_the_book(self):
        for thing in [*odd_things(), *NAMELESS]:
            self.no_name(thing, opened, book(), thing)
            self.no_name(thing, opened, dough=thing, book=book())
            for word in WORDS:
                self.no_name(thing, measured, book(), thing, word)

    def test_a_book_of_nothing(self):
        self.no_name("loaf", opened, Book([], []), "loaf")
        self.no_name("loaf", measured, Book([], []), "loaf", "flour")

    def test_other_words(self):
        others = [None, "", "name", "Flour", "flour ", "measure", "loaf", "rye", "flou", ["flour"], ("flour",), {"flour"}]
        for word in [*odd_things(), *others]:
            for name in ["loaf", "sour", "soak"]:
                self.no_name(word, measured, book(), name, word)
                self.no_name(word, measured, word=word, dough=name, book=book())

    def test_the_doughs_name_ahead_of_the_word(self):
        for thing in [*odd_things(), *NAMELESS]:
            self.no_name(thing, measured, book(), thing, "name")
            self.no_name(thing, measured, book(), thing, None)
            self.no_name(thing, measured, word=["flour"], dough=thing, book=book())

    def test_a_refusal_changes_nothing(self):
        one, names = book(), ["loaf"]
        self.no_name(names, opened, one, names)
        self.no_name(names, measured, one, "loaf", names)
        self.assertEqual((one, names), (book(), ["loaf"]))
        self.assertEqual(opened(one, "sour"), {"rye": (1, 2), "water": (1, 2)})


if __name__ == "__main__":
    unittest.main()
