"""Stuffs: [6], and of [2] and [3] what is told of them."""

import inspect
import unittest

from loafshares import stuffs
from loafshares.errors import NoName, NoStuff
from loafshares.fractions import times
from loafshares.stuffs import Stuff
from things import Alike, odd_things

FIELDS = ["name", "flour", "water", "salt", "thirst", "price"]
MEASURES = FIELDS[1:]
RYE = ("rye", (3, 4), (1, 8), (1, 16), (4, 5), (7, 3))
OTHERS = {
    "name": "spelt", "flour": (2, 3), "water": (1, 9), "salt": (0, 1), "thirst": (9, 5), "price": (7, 2),
}
WRONG_FRACTIONS = [(-1, 2), (-1, 1), (2, 4), (0, 2), (1, 0), (1, -2), (True, 1), (1, True), [1, 2], (1,), (1, 2, 3)]


def rye():
    return Stuff(*RYE)


def told(stuff):
    """What the six methods tell, in order."""
    return (stuff.name(), stuff.flour(), stuff.water(), stuff.salt(), stuff.thirst(), stuff.price())


class TestMade(unittest.TestCase):
    def test_interface(self):
        self.assertEqual(Stuff.__module__, "loafshares.stuffs")
        parameters = inspect.signature(Stuff).parameters
        self.assertEqual(list(parameters), FIELDS)
        self.assertEqual([parameters[word].default for word in MEASURES], [None] * 5)
        for method in [*FIELDS, "measure", "__eq__", "__repr__"]:
            self.assertIn(method, vars(Stuff))

    def test_by_places(self):
        self.assertEqual(told(rye()), RYE)

    def test_by_names(self):
        given = dict(zip(FIELDS, RYE))
        backwards = {word: given[word] for word in reversed(FIELDS)}
        self.assertEqual(told(Stuff(**given)), RYE)
        self.assertEqual(told(Stuff(**backwards)), RYE)

    def test_each_measure_alone(self):
        for at, word in enumerate(MEASURES, start=1):
            wanted = ["rye"] + [(0, 1)] * 5
            wanted[at] = (1, 2)
            self.assertEqual(told(Stuff("rye", **{word: (1, 2)})), tuple(wanted))

    def test_left_out(self):
        for many in range(1, 7):
            wanted = RYE[:many] + ((0, 1),) * (6 - many)
            self.assertEqual(told(Stuff(*RYE[:many])), wanted)

    def test_none_in_the_place_of_a_measure(self):
        for at in range(1, 6):
            given = RYE[:at] + (None,) + RYE[at + 1:]
            wanted = RYE[:at] + ((0, 1),) + RYE[at + 1:]
            self.assertEqual(told(Stuff(*given)), wanted)
        self.assertEqual(told(Stuff("rye", None, None, None, None, None)), ("rye",) + ((0, 1),) * 5)

    def test_edges(self):
        made = [
            ("a", (1, 1)), ("z", (0, 1), (1, 1)), ("abcdefghij", (0, 1), (0, 1), (1, 1)), ("m", (1, 3), (1, 3), (1, 3)),
            ("m", (999999999998, 999999999999), (1, 999999999999)),
            ("m", (0, 1), (0, 1), (0, 1), (999999999999, 1), (999999999998, 7)),
        ]
        for given in made:
            self.assertEqual(told(Stuff(*given)), given + ((0, 1),) * (6 - len(given)))

    def test_fractions_that_were_told_may_be_larger(self):
        large = times((999999999999, 1), (999999999998, 11))
        tiny = times((1, 999999999999), (1, 999999999989))
        self.assertEqual(Stuff("rye", tiny, tiny, tiny, large, large).measure("price"), large)
        self.assertEqual(Stuff("rye", tiny).flour(), tiny)

    def test_asked_again(self):
        stuff = rye()
        self.assertEqual([told(stuff) for _ in range(3)], [RYE] * 3)

    def test_of_two_neither_knows_of_the_other(self):
        one = rye()
        other = Stuff("salt", salt=(1, 1))
        self.assertEqual(told(one), RYE)
        self.assertEqual(told(other), ("salt", (0, 1), (0, 1), (1, 1), (0, 1), (0, 1)))


class TestMeasure(unittest.TestCase):
    def test_the_five_words(self):
        for word, worth in zip(MEASURES, RYE[1:]):
            self.assertEqual(rye().measure(word), worth)
            self.assertEqual(rye().measure(word=word), worth)

    def test_other_words(self):
        for word in ["name", "", "Flour", "flour ", " flour", "flour\n", "flou", "flours", "measure", "f", "rye"]:
            with self.assertRaises(NoName) as caught:
                rye().measure(word)
            self.assertEqual(caught.exception.who, word)

    def test_of_anything(self):
        for thing in [*odd_things(), None, ["flour"], ("flour",), {"flour"}, {"flour": 1}, b"flour"]:
            with self.assertRaises(NoName) as caught:
                rye().measure(thing)
            self.assertIs(caught.exception.who, thing)

    def test_a_refusal_changes_nothing(self):
        stuff = rye()
        things = ["flour"]
        with self.assertRaises(NoName):
            stuff.measure(things)
        self.assertEqual(things, ["flour"])
        self.assertEqual(told(stuff), RYE)


class TestRepr(unittest.TestCase):
    def test_told(self):
        self.assertEqual(repr(rye()), "Stuff('rye', (3, 4), (1, 8), (1, 16), (4, 5), (7, 3))")

    def test_none_and_left_out(self):
        wanted = "Stuff('rye', (0, 1), (0, 1), (0, 1), (0, 1), (0, 1))"
        self.assertEqual(repr(Stuff("rye")), wanted)
        self.assertEqual(repr(Stuff("rye", None, None, None, None, None)), wanted)
        self.assertEqual(repr(Stuff("a", water=(1, 1))), "Stuff('a', (0, 1), (1, 1), (0, 1), (0, 1), (0, 1))")

    def test_made_again(self):
        self.assertEqual(eval(repr(rye()), {"Stuff": Stuff}), rye())


class TestEqual(unittest.TestCase):
    def test_made_alike(self):
        stuff = rye()
        self.assertIs(stuff == stuff, True)
        self.assertIs(stuff == rye(), True)
        self.assertIs(stuff != rye(), False)
        self.assertIs(Stuff("rye") == Stuff("rye", None, (0, 1), None, (0, 1)), True)

    def test_each_of_the_six(self):
        for at, field in enumerate(FIELDS):
            with self.subTest(field=field):
                other = Stuff(*RYE[:at], OTHERS[field], *RYE[at + 1:])
                self.assertIs(rye() == other, False)
                self.assertIs(other == rye(), False)
                self.assertIs(rye() != other, True)

    def test_measures_in_other_places(self):
        for one in MEASURES:
            for other in MEASURES:
                alike = Stuff("rye", **{one: (1, 2)}) == Stuff("rye", **{other: (1, 2)})
                self.assertIs(alike, one == other)

    def test_things_that_are_no_stuffs(self):
        class Likely:
            own_name = "rye"
            measures = RYE[1:]

        for thing in [*odd_things(), None, "rye", RYE, list(RYE), repr(rye()), Alike(), Stuff, Likely()]:
            self.assertIs(rye() == thing, False)
            self.assertIs(rye() != thing, True)


class TestRefused(unittest.TestCase):
    def refused(self, field, *given, **named):
        with self.assertRaises(NoStuff) as caught:
            Stuff(*given, **named)
        self.assertEqual(caught.exception.field, field)

    def test_name(self):
        for name in ["", "abcdefghijk", "Rye", "rye1", "rye ", " rye", "r{e", "rye\n", None, b"rye", ["rye"], ("rye",)]:
            self.refused("name", name)
            self.refused("name", name, *RYE[1:])
            self.refused("name", name=name, flour=(1, 2))

    def test_each_measure(self):
        for at, word in enumerate(MEASURES, start=1):
            for wrong in [*WRONG_FRACTIONS, "1", "1/2", "", 0, 1, True, False, (), [], {}, (None, None)]:
                with self.subTest(word=word, wrong=wrong):
                    self.refused(word, *RYE[:at], wrong, *RYE[at + 1:])
                    self.refused(word, "rye", **{word: wrong})

    def test_of_anything(self):
        for at, field in enumerate(FIELDS):
            for thing in odd_things():
                self.refused(field, *RYE[:at], thing, *RYE[at + 1:])

    def test_the_first_one_of_several(self):
        for first in range(6):
            for second in range(first, 6):
                for wrong in [(2, 4), "A", (-1, 1), [0, 1]]:
                    given = list(RYE)
                    given[first] = given[second] = wrong
                    self.refused(FIELDS[first], *given)
            self.refused(FIELDS[first], *RYE[:first], *["A"] * (6 - first))

    def test_above_1_together(self):
        for three in [((2, 1), None, None), (None, (2, 1), None), (None, None, (2, 1)), ((1, 1), (1, 9), None),
                      ((1, 1), None, (1, 9)), (None, (1, 1), (1, 9)), ((1, 2), (1, 2), (1, 999999999999)),
                      ((1, 3), (1, 3), (2, 5)), ((999999999998, 999999999999), (1, 999999999998), (0, 1)),
                      ((1, 1), (1, 1), (1, 1))]:
            with self.subTest(three=three):
                self.refused("salt", "rye", *three)
                self.refused("salt", "rye", *three, (1, 2), (1, 2))

    def test_above_1_together_and_others_wrong(self):
        self.refused("name", "Rye", (2, 1))
        self.refused("flour", "rye", (4, 2), (2, 1))
        self.refused("water", "rye", (2, 1), (-1, 1))
        self.refused("water", "rye", (2, 1), "A", (2, 1))
        self.refused("salt", "rye", (2, 1), None, (-2, 1))
        self.refused("salt", "rye", (2, 1), None, "A")
        self.refused("salt", "rye", (2, 1), None, None, (-1, 1))
        self.refused("salt", "rye", (2, 1), None, None, "A", "A")
        self.refused("salt", "rye", (1, 2), (1, 2), (1, 2), None, (2, 4))
        self.refused("thirst", "rye", (1, 2), (1, 2), None, (-1, 1), (2, 4))

    def test_thirst_and_price_may_be_above_1(self):
        self.assertEqual(told(Stuff("rye", (1, 1), None, None, (2, 1), (3, 1)))[4:], ((2, 1), (3, 1)))

    def test_a_refused_making_changes_nothing(self):
        stuff = rye()
        for at, field in enumerate(FIELDS):
            given = [*RYE[:at], [1, [2]], *RYE[at + 1:]]
            self.refused(field, *given)
            self.assertEqual(given, [*RYE[:at], [1, [2]], *RYE[at + 1:]])
            with self.assertRaises(NoStuff):
                stuff.__init__(*["spelt", (1, 2), (1, 3), (1, 7), (1, 2), (1, 2)][:at], [1, [2]])
            self.assertEqual(told(stuff), RYE)
        self.assertEqual(told(rye()), RYE)
        self.assertEqual(stuffs.WORDS, tuple(MEASURES))


if __name__ == "__main__":
    unittest.main()
