"""Trees of doughs: [21], and of [2] and [3] what is told of them."""

import inspect
import unittest
from fractions import Fraction

from breads import book, number, other_book, some_books
from loafshares.books import Book
from loafshares.doughs import Dough
from loafshares.stuffs import Stuff
from loafshares.trees import tree
from refusals import Refusals
from things import odd_things

NAMELESS = [None, "", "oil", "rye", "Loaf", "loaf ", ["loaf"], ("loaf",), {"loaf"}, b"loaf"]
LOAF = [
    "loaf",
    "  wheat 20/39",
    "  sponge 10/39",
    "    wheat 1/2",
    "    sour 1/8",
    "      rye 1/2",
    "      water 1/2",
    "    water 3/8",
    "  water 20/117",
    "  salt 2/117",
    "  sour 5/117 ..",
]


def of(name, *things):
    return Dough(name, [(thing, (1, 1)) for thing in things])


def reckoned_tree(one, name):
    """The lines, each made of the path that leads to it; a dough that stood above on any path is cut off."""
    lines, stood, waiting = [name], [name], [(name, 1, row) for row in one.dough(name).rows()]
    while waiting:
        dough, depth, (thing, parts) = waiting.pop(0)
        total = sum(number(much) for _, much in one.dough(dough).rows())
        line = "  " * depth + f"{thing} {number(parts) / total}"
        lines.append(line + " .." if thing in stood else line)
        if thing in one.doughs() and thing not in stood:
            stood.append(thing)
            waiting = [(thing, depth + 1, row) for row in one.dough(thing).rows()] + waiting
    return lines


class TestTree(Refusals):
    def test_interface(self):
        self.assertEqual(list(inspect.signature(tree).parameters), ["book", "dough"])
        self.assertEqual(tree.__module__, "loafshares.trees")

    def test_of_stuffs_alone(self):
        self.assertEqual(tree(book(), "sour"), ["sour", "  rye 1/2", "  water 1/2"])
        self.assertEqual(tree(book(), "brine"), ["brine", "  water 9/10", "  salt 1/10"])
        self.assertEqual(tree(Book([Stuff("rye")], [Dough("a", [("rye", (7, 3))])]), "a"), ["a", "  rye 1"])

    def test_of_doughs_within_doughs(self):
        wanted = ["soak", "  seed 1/3", "  brine 2/3", "    water 9/10", "    salt 1/10"]
        self.assertEqual(tree(book(), "soak"), wanted)
        self.assertEqual(tree(dough="soak", book=book()), wanted)

    def test_an_inner_one_that_stands_in_two(self):
        self.assertEqual(tree(book(), "loaf"), LOAF)

    def test_cut_off_where_it_stood_deeper_or_less_deep(self):
        one = Book([Stuff("rye")], [of("a", "rye"), of("b", "a"), of("c", "a", "b", "rye"), of("d", "b", "a"), of("e", "b", "d")])
        self.assertEqual(tree(one, "c"), ["c", "  a 1/3", "    rye 1", "  b 1/3", "    a 1 ..", "  rye 1/3"])
        self.assertEqual(tree(one, "d"), ["d", "  b 1/2", "    a 1", "      rye 1", "  a 1/2 .."])
        wanted = ["e", "  b 1/2", "    a 1", "      rye 1", "  d 1/2", "    b 1/2 ..", "    a 1/2 .."]
        self.assertEqual(tree(one, "e"), wanted)

    def test_a_stuff_that_stands_twice_is_not_cut_off(self):
        one = Book([Stuff("rye")], [of("a", "rye"), of("b", "rye", "a")])
        self.assertEqual(tree(one, "b"), ["b", "  rye 1/2", "  a 1/2", "    rye 1"])

    def test_eleven_deep(self):
        made = [of("a", "rye")] + [of(outer, inner, "rye") for inner, outer in zip("abcdefghij", "bcdefghijk")]
        told = tree(Book([Stuff("rye")], made), "k")
        self.assertEqual(len(told), 22)
        self.assertEqual(told[11], "  " * 11 + "rye 1")
        self.assertEqual(told[10], "  " * 10 + "a 1/2")

    def test_by_chance(self):
        for one in [book(), other_book(), *some_books()]:
            for name in one.doughs():
                told = tree(one, name)
                self.assertEqual(told, reckoned_tree(one, name))
                self.assertTrue(all(type(line) is str for line in told))

    def test_large_parts(self):
        one = Book([Stuff("rye"), Stuff("oil")], [Dough("a", [("rye", (999999999, 1)), ("oil", (1, 999999999))])])
        share = Fraction(1, 999999999 ** 2 + 1)
        self.assertEqual(tree(one, "a"), ["a", f"  rye {1 - share}", f"  oil {share}"])

    def test_told_lists(self):
        one = book()
        first, second = tree(one, "loaf"), tree(one, "loaf")
        self.assertIs(type(first), list)
        first.clear()
        self.assertEqual(second, LOAF)
        second.append("rye")
        self.assertEqual(tree(one, "loaf"), LOAF)
        self.assertEqual(one, book())
        self.assertEqual(tree(other_book(), "loaf"), ["loaf", "  milk 1/3", "  rye 2/3"])

    def test_no_name(self):
        for thing in [*odd_things(), *NAMELESS]:
            self.no_name(thing, tree, book(), thing)
            self.no_name(thing, tree, dough=thing, book=book())
        self.no_name("loaf", tree, Book([], []), "loaf")


if __name__ == "__main__":
    unittest.main()
