"""Doughs: [7], and of [2] and [3] what is told of them."""

import inspect
import unittest

from loafshares.doughs import Dough
from loafshares.errors import NoDough
from loafshares.fractions import times
from loafshares.stuffs import Stuff
from things import Alike, Odd, odd_things

FIELDS = ["name", "rows", "lead"]
ROWS = [("wheat", (2, 1)), ("water", (3, 2)), ("salt", (1, 25))]
EIGHT = [(letter * 10, (1, at + 1)) for at, letter in enumerate("abcdefgh")]
LARGEST = [("a", (999999999, 1)), ("b", (1, 999999999)), ("c", (999999998, 999999997))]


def loaf():
    return Dough("loaf", ROWS, 3)


def told(dough):
    return (dough.name(), dough.rows(), dough.lead())


class TestMade(unittest.TestCase):
    def test_interface(self):
        self.assertEqual(Dough.__module__, "loafshares.doughs")
        parameters = inspect.signature(Dough).parameters
        self.assertEqual(list(parameters), FIELDS)
        self.assertEqual(parameters["lead"].default, 0)
        for method in [*FIELDS, "total", "__eq__", "__len__", "__repr__"]:
            self.assertIn(method, vars(Dough))

    def test_by_places(self):
        self.assertEqual(told(loaf()), ("loaf", ROWS, 3))

    def test_by_names(self):
        self.assertEqual(told(Dough(name="loaf", rows=ROWS, lead=3)), ("loaf", ROWS, 3))
        self.assertEqual(told(Dough(lead=3, rows=ROWS, name="loaf")), ("loaf", ROWS, 3))
        self.assertEqual(told(Dough("loaf", lead=3, rows=ROWS)), ("loaf", ROWS, 3))

    def test_lead_left_out(self):
        self.assertEqual(told(Dough("loaf", ROWS)), ("loaf", ROWS, 0))
        self.assertEqual(told(Dough(rows=ROWS, name="loaf")), ("loaf", ROWS, 0))

    def test_of_a_tuple_of_rows(self):
        dough = Dough("loaf", tuple(ROWS), 3)
        self.assertEqual(told(dough), ("loaf", ROWS, 3))
        self.assertEqual(dough, loaf())

    def test_rows_are_a_list_of_tuples(self):
        for given in [ROWS, tuple(ROWS)]:
            rows = Dough("loaf", given).rows()
            self.assertIs(type(rows), list)
            for row in rows:
                self.assertIs(type(row), tuple)
                self.assertIs(type(row[1]), tuple)

    def test_one_row_and_eight(self):
        self.assertEqual(Dough("a", [("b", (1, 1))]).rows(), [("b", (1, 1))])
        for many in range(1, 9):
            dough = Dough("abcdefghij", EIGHT[:many])
            self.assertEqual(dough.rows(), EIGHT[:many])
            self.assertEqual(len(dough), many)

    def test_leads(self):
        for lead in [0, 1, 50, 98, 99]:
            self.assertEqual(Dough("loaf", ROWS, lead).lead(), lead)

    def test_its_own_name_in_a_row_is_no_matter_of_a_dough(self):
        self.assertEqual(Dough("loaf", [("loaf", (1, 1))]).rows(), [("loaf", (1, 1))])

    def test_things_of_like_parts_and_like_beginnings(self):
        rows = [("rye", (1, 1)), ("ryes", (1, 1)), ("ry", (1, 1))]
        self.assertEqual(Dough("loaf", rows).rows(), rows)

    def test_asked_again(self):
        dough = loaf()
        self.assertEqual([told(dough) for _ in range(3)], [("loaf", ROWS, 3)] * 3)

    def test_of_two_neither_knows_of_the_other(self):
        one, other = loaf(), Dough("roll", [("rye", (1, 1))], 9)
        self.assertEqual(told(one), ("loaf", ROWS, 3))
        self.assertEqual(told(other), ("roll", [("rye", (1, 1))], 9))


class TestTotal(unittest.TestCase):
    def test_total(self):
        self.assertEqual(loaf().total(), (177, 50))
        self.assertEqual(Dough("a", [("b", (7, 3))]).total(), (7, 3))
        self.assertEqual(Dough("a", [("b", (1, 2)), ("c", (1, 2))]).total(), (1, 1))
        self.assertEqual(Dough("a", [("b", (1, 6)), ("c", (1, 3))]).total(), (1, 2))
        self.assertEqual(Dough("a", EIGHT).total(), (761, 280))

    def test_parts_of_nine_figures(self):
        dough = Dough("a", LARGEST)
        self.assertEqual(dough.rows(), LARGEST)
        bottom = 999999999 * 999999997
        self.assertEqual(dough.total(), (999999999 * bottom + 999999997 + 999999998 * 999999999, bottom))

    def test_parts_that_were_told_may_be_larger(self):
        large = times(times((999999999, 1), (999999998, 7)), (999999997, 11))
        self.assertEqual(Dough("a", [("b", large)]).total(), large)


class TestCopies(unittest.TestCase):
    def test_what_is_done_to_the_handed_list(self):
        rows = list(ROWS)
        dough = Dough("loaf", rows, 3)
        self.assertEqual(rows, ROWS)
        rows.append(("rye", (1, 1)))
        rows[0] = ("rye", (5, 1))
        self.assertEqual(told(dough), ("loaf", ROWS, 3))
        rows.clear()
        self.assertEqual((told(dough), len(dough), dough.total()), (("loaf", ROWS, 3), 3, (177, 50)))

    def test_what_is_done_to_the_told_list(self):
        dough = loaf()
        one, other = dough.rows(), dough.rows()
        self.assertIsNot(one, other)
        one.clear()
        self.assertEqual(other, ROWS)
        self.assertEqual((told(dough), len(dough), dough), (("loaf", ROWS, 3), 3, loaf()))
        other.append(("rye", (1, 1)))
        self.assertEqual(repr(dough), repr(loaf()))


class TestRepr(unittest.TestCase):
    def test_told(self):
        wanted = "Dough('loaf', [('wheat', (2, 1)), ('water', (3, 2)), ('salt', (1, 25))], 3)"
        self.assertEqual(repr(loaf()), wanted)
        self.assertEqual(repr(Dough("loaf", tuple(ROWS), 3)), wanted)

    def test_one_row_and_no_lead(self):
        self.assertEqual(repr(Dough("a", [("b", (1, 2))])), "Dough('a', [('b', (1, 2))], 0)")
        self.assertEqual(repr(Dough("a", (("b", (1, 2)),), 99)), "Dough('a', [('b', (1, 2))], 99)")

    def test_made_again(self):
        for dough in [loaf(), Dough("a", EIGHT), Dough("a", LARGEST, 99)]:
            self.assertEqual(eval(repr(dough), {"Dough": Dough}), dough)


class TestEqual(unittest.TestCase):
    def unequal(self, other):
        self.assertIs(loaf() == other, False)
        self.assertIs(other == loaf(), False)
        self.assertIs(loaf() != other, True)

    def test_made_alike(self):
        dough = loaf()
        self.assertIs(dough == dough, True)
        self.assertIs(dough == loaf(), True)
        self.assertIs(dough != loaf(), False)
        self.assertIs(Dough("loaf", ROWS) == Dough("loaf", ROWS, 0), True)

    def test_the_name(self):
        self.unequal(Dough("loav", ROWS, 3))

    def test_a_thing(self):
        self.unequal(Dough("loaf", [("rye", (2, 1)), *ROWS[1:]], 3))

    def test_parts(self):
        self.unequal(Dough("loaf", [*ROWS[:2], ("salt", (1, 24))], 3))
        self.unequal(Dough("loaf", [("wheat", (4, 1)), ("water", (3, 1)), ("salt", (2, 25))], 3))

    def test_the_order_of_rows(self):
        self.unequal(Dough("loaf", [ROWS[1], ROWS[0], ROWS[2]], 3))

    def test_a_row_more_and_a_row_less(self):
        self.unequal(Dough("loaf", [*ROWS, ("rye", (1, 1))], 3))
        self.unequal(Dough("loaf", ROWS[:2], 3))

    def test_the_lead(self):
        self.unequal(Dough("loaf", ROWS, 2))
        self.unequal(Dough("loaf", ROWS))

    def test_things_that_are_no_doughs(self):
        class Likely:
            own_name = "loaf"
            own_rows = tuple(ROWS)
            own_lead = 3

        alike = [Stuff("loaf"), ("loaf", ROWS, 3), ["loaf", ROWS, 3], repr(loaf()), Dough, Likely(), ROWS, "loaf"]
        for thing in [*odd_things(), None, *alike]:
            self.assertIs(loaf() == thing, False)
            self.assertIs(loaf() != thing, True)


class TestRefused(unittest.TestCase):
    def refused(self, field, *given, **named):
        with self.assertRaises(NoDough) as caught:
            Dough(*given, **named)
        self.assertEqual(caught.exception.field, field)

    def test_name(self):
        for name in ["", "abcdefghijk", "Loaf", "loaf1", "loaf ", "lo-af", "loaf\n", None, b"loaf", ["loaf"], 1]:
            self.refused("name", name, ROWS)
            self.refused("name", name, ROWS, 3)
            self.refused("name", name=name, rows=ROWS)

    def test_too_few_rows_and_too_many(self):
        for rows in [[], (), [*EIGHT, ("i", (1, 1))], (*EIGHT, ("i", (1, 1))), EIGHT * 2]:
            self.refused("rows", "loaf", rows)

    def test_rows_that_are_no_list(self):
        for rows in [None, "", "rows", dict(ROWS), set(ROWS), iter(ROWS), frozenset(ROWS), range(3), ROWS[0], 3, loaf()]:
            self.refused("rows", "loaf", rows)

    def test_a_row_that_is_none(self):
        wrong = [
            ["rye", (1, 1)], ("rye",), ("rye", (1, 1), (1, 1)), (), "ab", None, {"rye": (1, 1)}, {"rye", (1, 1)},
            ("rye", 1, 1), ((1, 1), "rye"), (("rye", (1, 1)),),
        ]
        for row in wrong:
            for at in range(3):
                with self.subTest(row=row, at=at):
                    self.refused("rows", "loaf", [*ROWS[:at], row, *ROWS[at:]])
                    self.refused("rows", "loaf", (*ROWS[:at], row, *ROWS[at:]))
            self.refused("rows", "loaf", [row])

    def test_a_thing_that_is_no_name(self):
        for thing in ["", "Rye", "abcdefghijk", "rye2", "rye ", None, 1, b"rye", ("rye",), ["rye"], Stuff("rye"), loaf()]:
            self.refused("rows", "loaf", [(thing, (1, 1))])
            self.refused("rows", "loaf", [*ROWS, (thing, (1, 1))])

    def test_two_things_alike(self):
        self.refused("rows", "loaf", [("rye", (1, 1)), ("rye", (1, 1))])
        self.refused("rows", "loaf", [("rye", (1, 1)), ("rye", (2, 1))])
        self.refused("rows", "loaf", [*ROWS, ("wheat", (1, 9))])
        self.refused("rows", "loaf", [*EIGHT[:7], (EIGHT[0][0], (1, 9))])

    def test_parts(self):
        wrong = [
            (0, 1), (-1, 1), (-1, 2), (2, 4), (0, 2), (1, 0), (1, -1), (-1, -1), (True, 1), (1, True), [1, 1], (1,),
            (1, 1, 1), 1, 0, True, None, "1", "1/2", (), {}, ("1", "1"), (None, None),
        ]
        for parts in wrong:
            with self.subTest(parts=parts):
                self.refused("rows", "loaf", [("rye", parts)])
                self.refused("rows", "loaf", [*ROWS, ("rye", parts)])
                self.refused("rows", "loaf", [("rye", parts), *ROWS])

    def test_lead(self):
        for lead in [-1, 100, True, False, "3", "", None, (3, 1), [3], 10 ** 30, -10 ** 30]:
            self.refused("lead", "loaf", ROWS, lead)
            self.refused("lead", lead=lead, rows=ROWS, name="loaf")

    def test_of_anything(self):
        for thing in [*odd_things(), None]:
            self.refused("name", thing, ROWS, 3)
            self.refused("rows", "loaf", thing, 3)
            self.refused("rows", "loaf", [thing])
            self.refused("rows", "loaf", [*ROWS, thing])
            self.refused("rows", "loaf", [(thing, (1, 1))])
            self.refused("rows", "loaf", [("rye", thing)])
            self.refused("rows", "loaf", [("rye", (thing, True))])
        for thing in [*odd_things(), None]:
            if type(thing) is not int or thing not in range(100):
                self.refused("lead", "loaf", ROWS, thing)

    def test_things_that_lie(self):
        self.refused("rows", "loaf", [("rye", (1, 1)), (Alike(), (1, 1))])
        self.refused("rows", "loaf", [(Odd(), (1, 1)), (Odd(), (1, 1))])
        self.refused("rows", "loaf", [("rye", (1, Alike()))])

    def test_the_first_one_of_several(self):
        for wrong in [None, "A", [1], -1]:
            self.refused("name", wrong, wrong, wrong)
            self.refused("name", wrong, wrong, 3)
            self.refused("name", wrong, ROWS, wrong)
            self.refused("rows", "loaf", wrong, wrong)
            self.refused("lead", "loaf", ROWS, wrong)

    def test_a_refused_making_changes_nothing(self):
        rows = [*ROWS, ["rye", [1, 1]]]
        self.refused("rows", "loaf", rows)
        self.assertEqual(rows, [*ROWS, ["rye", [1, 1]]])
        dough = loaf()
        for given in [("A", EIGHT, 1), ("roll", [], 1), ("roll", EIGHT, 100)]:
            with self.assertRaises(NoDough):
                dough.__init__(*given)
            self.assertEqual(told(dough), ("loaf", ROWS, 3))


if __name__ == "__main__":
    unittest.main()
