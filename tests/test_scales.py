"""Scales: [14], [15], and of [2], [3] and [4] what is told of them."""

import inspect
import itertools
import unittest
from fractions import Fraction
from random import Random

from breads import number, pair, some_fraction
from loafshares.errors import NoStep, NoWeights, TooLittle
from loafshares.fractions import is_fraction, times
from loafshares.scales import aims, paper, rounded, shows, worst_of
from things import Alike, Odd, odd_things

NONES = [(0, 1), (-1, 1), (2, 4), (0, 2), (1, 0), (1, -1), (True, 1), (1, True), [1, 1], (1,), None, 1, True, "1", ""]
# 1, 2 and 3 make 6, so that steps of 1 fit them just so, and steps of 4 leave 2
THREE = [(1, 1), (2, 1), (3, 1)]


def some_scales():
    """Weights and steps made by chance, whose steps go into the weights at least once."""
    random = Random(8)
    made = []
    while len(made) < 300:
        weights = [some_fraction(random) for _ in range(random.randint(1, 12))]
        if random.random() < 0.4:
            weights = [random.choice(weights[:3]) for _ in weights]
        total = sum(number(weight) for weight in weights)
        step = pair(total / (random.randint(1, 40) + Fraction(random.randint(0, 6), 7)))
        made.append((weights, step))
    return made


def reckoned_aims(weights, step):
    total = sum(number(weight) for weight in weights)
    many = total // number(step)
    return [number(weight) / total * many for weight in weights]


def all_counted(places, many):
    """All lists of so many whole numbers from 0 that make many."""
    if places == 1:
        return [[many]]
    return [[first, *rest] for first in range(many + 1) for rest in all_counted(places - 1, many - first)]


def reckoned_worst(goals, counted):
    return max(abs(count - aim) for count, aim in zip(counted, goals))


class TestInterface(unittest.TestCase):
    def test_interface(self):
        wanted = {
            aims: ["weights", "step"], rounded: ["weights", "step"], worst_of: ["weights", "step", "counted"],
            paper: ["weights", "step", "bound"], shows: ["weights", "step", "bound", "thing"],
        }
        for function, names in wanted.items():
            self.assertEqual(list(inspect.signature(function).parameters), names)
            self.assertEqual(function.__module__, "loafshares.scales")

    def test_by_names(self):
        self.assertEqual(aims(step=(4, 1), weights=THREE), aims(THREE, (4, 1)))
        self.assertEqual(rounded(step=(4, 1), weights=THREE), rounded(THREE, (4, 1)))
        self.assertEqual(worst_of(counted=[0, 0, 1], step=(4, 1), weights=THREE), (1, 2))
        self.assertEqual(paper(bound=(1, 2), step=(4, 1), weights=THREE), ([2], [0, 1, 2]))
        self.assertIs(shows(thing=([2], [0, 1, 2]), bound=(1, 2), step=(4, 1), weights=THREE), True)


class TestAims(unittest.TestCase):
    def test_one_weight(self):
        self.assertEqual(aims([(7, 2)], (1, 1)), [(3, 1)])
        self.assertEqual(aims([(7, 2)], (7, 2)), [(1, 1)])

    def test_steps_just_so_and_steps_that_leave_a_rest(self):
        self.assertEqual(aims(THREE, (1, 1)), [(1, 1), (2, 1), (3, 1)])
        self.assertEqual(aims(THREE, (1, 2)), [(2, 1), (4, 1), (6, 1)])
        self.assertEqual(aims(THREE, (4, 1)), [(1, 6), (1, 3), (1, 2)])
        self.assertEqual(aims(THREE, (5, 2)), [(1, 3), (2, 3), (1, 1)])

    def test_by_chance(self):
        for weights, step in some_scales():
            told = aims(weights, step)
            self.assertIs(type(told), list)
            self.assertEqual(told, [pair(aim) for aim in reckoned_aims(weights, step)])
            many = sum(number(weight) for weight in weights) // number(step)
            self.assertEqual(sum(number(aim) for aim in told), many)

    def test_twelve_figures(self):
        weights = [(999999999999, 1), (1, 999999999999), (999999999998, 999999999997)] * 4
        for step in [(1, 999999999999), (999999999999, 1), (1, 1), (999999999998, 999999999999)]:
            self.assertEqual(aims(weights, step), [pair(aim) for aim in reckoned_aims(weights, step)])
            counted, rest, worst = rounded(weights, step)
            total = sum(number(weight) for weight in weights)
            self.assertEqual(sum(counted), total // number(step))
            self.assertEqual(number(rest), total % number(step))
            self.assertEqual(worst, worst_of(weights, step, counted))

    def test_weights_that_were_told_may_be_larger(self):
        large = times((999999999999, 7), (999999999989, 11))
        self.assertEqual(aims([large, large], large), [(1, 1), (1, 1)])


class TestRounded(unittest.TestCase):
    def test_one_weight(self):
        self.assertEqual(rounded([(7, 2)], (1, 1)), ([3], (1, 2), (0, 1)))
        self.assertEqual(rounded([(7, 2)], (7, 2)), ([1], (0, 1), (0, 1)))
        self.assertEqual(rounded([(7, 2)], (2, 1)), ([1], (3, 2), (0, 1)))

    def test_steps_just_so(self):
        self.assertEqual(rounded(THREE, (1, 1)), ([1, 2, 3], (0, 1), (0, 1)))
        self.assertEqual(rounded(THREE, (1, 7)), ([7, 14, 21], (0, 1), (0, 1)))

    def test_steps_that_leave_a_rest(self):
        self.assertEqual(rounded(THREE, (4, 1)), ([0, 0, 1], (2, 1), (1, 2)))
        self.assertEqual(rounded(THREE, (5, 2)), ([0, 1, 1], (1, 1), (1, 3)))
        self.assertEqual(rounded([(10, 1), (7, 1), (3, 1)], (3, 1)), ([3, 2, 1], (2, 1), (1, 10)))
        self.assertEqual(rounded([(5, 4), (5, 4), (1, 2)], (1, 1)), ([1, 1, 1], (0, 1), (1, 2)))

    def test_like_aims_the_earlier_have_one_more(self):
        for many in range(1, 13):
            for steps in range(1, 30):
                counted, rest, worst = rounded([pair(Fraction(steps, many))] * many, (1, 1))
                each, more = divmod(steps, many)
                self.assertEqual(counted, [each + 1] * more + [each] * (many - more))
                off = max(Fraction(more, many), Fraction(many - more, many)) if more else 0
                self.assertEqual((rest, worst), ((0, 1), pair(off)))

    def test_like_ones_above_unlike_floors(self):
        weights = [(7, 2), (1, 2), (5, 2), (1, 2), (1, 1)]
        self.assertEqual(rounded(weights, (1, 1)), ([4, 1, 2, 0, 1], (0, 1), (1, 2)))
        self.assertEqual(rounded(weights[::-1], (1, 1)), ([1, 1, 3, 0, 3], (0, 1), (1, 2)))

    def test_twelve_weights(self):
        weights = [(at, 1) for at in range(1, 13)]
        counted, rest, worst = rounded(weights, (13, 1))
        self.assertEqual(counted, [0, 0, 0, 0, 0, 0, 1, 1, 1, 1, 1, 1])
        self.assertEqual((rest, worst), ((0, 1), (6, 13)))

    def test_kinds(self):
        told = rounded(THREE, (4, 1))
        self.assertIs(type(told), tuple)
        self.assertEqual([type(part) for part in told], [list, tuple, tuple])
        self.assertEqual({type(count) for count in told[0]}, {int})

    def test_by_chance(self):
        for weights, step in some_scales():
            goals = reckoned_aims(weights, step)
            counted, rest, worst = rounded(weights, step)
            total = sum(number(weight) for weight in weights)
            many = total // number(step)
            self.assertEqual(sum(counted), many)
            self.assertEqual(rest, pair(total - many * number(step)))
            self.assertEqual(worst, pair(reckoned_worst(goals, counted)))
            self.assertTrue(number(worst) < 1)
            places = sorted(range(len(goals)), key=lambda at: (-(goals[at] % 1), at))
            more = many - sum(aim // 1 for aim in goals)
            wanted = [aim // 1 + (1 if places.index(at) < more else 0) for at, aim in enumerate(goals)]
            self.assertEqual(counted, wanted)

    def test_no_other_counted_ones_are_nearer(self):
        tried = 0
        for weights, step in some_scales():
            goals = reckoned_aims(weights, step)
            many = sum(goals)
            if len(weights) > 4 or many > 15:
                continue
            tried += 1
            least = min(reckoned_worst(goals, counted) for counted in all_counted(len(weights), int(many)))
            self.assertEqual(rounded(weights, step)[2], pair(least))
        self.assertGreater(tried, 20)


class TestWorst(unittest.TestCase):
    def test_worst(self):
        self.assertEqual(worst_of(THREE, (1, 1), [1, 2, 3]), (0, 1))
        self.assertEqual(worst_of(THREE, (1, 1), [6, 0, 0]), (5, 1))
        self.assertEqual(worst_of(THREE, (1, 1), [0, 0, 6]), (3, 1))
        self.assertEqual(worst_of(THREE, (4, 1), [1, 0, 0]), (5, 6))
        self.assertEqual(worst_of(THREE, (4, 1), [0, 1, 0]), (2, 3))
        self.assertEqual(worst_of([(7, 2)], (1, 1), [3]), (0, 1))
        self.assertEqual(worst_of(THREE, (4, 1), (0, 1, 0)), (2, 3))

    def test_all_counted(self):
        for weights, step in [(THREE, (1, 1)), (THREE, (4, 3)), ([(1, 2), (5, 7), (1, 9)], (1, 4)), ([(1, 1)], (1, 7))]:
            goals = reckoned_aims(weights, step)
            for counted in all_counted(len(weights), int(sum(goals))):
                told = worst_of(weights, step, counted)
                self.assertEqual(told, pair(reckoned_worst(goals, counted)))
                self.assertTrue(is_fraction(told))


class TestPaper(unittest.TestCase):
    def test_paper(self):
        # aims 1/6, 1/3, 1/2
        self.assertEqual(paper(THREE, (4, 1), (1, 2)), ([2], [0, 1, 2]))
        self.assertEqual(paper(THREE, (4, 1), (1, 1)), ([], []))
        self.assertEqual(paper(THREE, (4, 1), (1, 100)), ([0, 1, 2], [0, 1, 2]))

    def test_a_bound_equal_to_what_is_above_a_floor(self):
        self.assertEqual(paper(THREE, (4, 1), (1, 3)), ([1, 2], [0, 1, 2]))
        self.assertEqual(paper(THREE, (4, 1), (1, 6)), ([0, 1, 2], [0, 1, 2]))
        self.assertEqual(paper(THREE, (4, 1), (34, 101)), ([2], [0, 1, 2]))
        self.assertEqual(paper(THREE, (4, 1), (5, 6)), ([], [0]))
        self.assertEqual(paper(THREE, (4, 1), (84, 101)), ([], [0]))
        self.assertEqual(paper(THREE, (4, 1), (2, 3)), ([], [0, 1]))
        self.assertEqual(paper(THREE, (4, 1), (67, 100)), ([], [0]))

    def test_whole_aims(self):
        self.assertEqual(paper(THREE, (1, 1), (1, 1)), ([], [0, 1, 2]))
        self.assertEqual(paper(THREE, (1, 1), (1, 999999999999)), ([], [0, 1, 2]))

    def test_kinds(self):
        told = paper(THREE, (4, 1), (1, 3))
        self.assertEqual([type(part) for part in (told, *told)], [tuple, list, list])
        self.assertEqual({type(place) for place in [*told[0], *told[1]]}, {int})

    def test_by_chance(self):
        for weights, step in some_scales():
            goals = reckoned_aims(weights, step)
            for bound in some_bounds(goals):
                up = [at for at, aim in enumerate(goals) if aim - aim // 1 >= bound]
                down = [at for at, aim in enumerate(goals) if aim // 1 + 1 - aim >= bound]
                self.assertEqual(paper(weights, step, pair(bound)), (up, down))


def some_bounds(goals):
    """Bounds above 0 and to 1, at and beside what aims are above and below whole numbers."""
    found = {Fraction(1), Fraction(1, 2), Fraction(1, 1000), Fraction(999, 1000)}
    for aim in goals[:3]:
        for edge in [aim % 1, 1 - aim % 1]:
            found |= {edge, edge + Fraction(1, 10 ** 6), edge - Fraction(1, 10 ** 6)}
    return sorted(bound for bound in found if 0 < bound <= 1)


class TestShows(unittest.TestCase):
    def test_true_of_the_paper_of_a_bound_that_is_shown(self):
        for bound in [(1, 100), (1, 6), (1, 3), (1, 2)]:
            self.assertIs(shows(THREE, (4, 1), bound, paper(THREE, (4, 1), bound)), True)
        # worst is 1/2; of a greater bound there are counted ones below it
        for bound in [(51, 100), (2, 3), (5, 6), (1, 1)]:
            self.assertIs(shows(THREE, (4, 1), bound, paper(THREE, (4, 1), bound)), False)

    def test_each_way_to_show(self):
        # a place in both: aims 1/2, 1/2
        self.assertIs(shows([(1, 2), (1, 2)], (1, 1), (1, 2), ([0, 1], [0, 1])), True)
        # more up than have to be one more: three aims of 2/3, of which two have to be
        self.assertIs(shows([(2, 3)] * 3, (1, 1), (2, 3), ([0, 1, 2], [])), True)
        # fewer not down than have to be one more: three aims of 1/3, of which one has to be
        self.assertIs(shows([(1, 3)] * 3, (1, 1), (2, 3), ([], [0, 1, 2])), True)
        # just as many up, or not down, as have to be one more
        self.assertIs(shows([(2, 3), (2, 3), (2, 3)], (1, 1), (7, 10), ([], [])), False)
        self.assertIs(shows([(3, 4), (1, 4)], (1, 1), (1, 2), ([0], [1])), False)
        self.assertIs(shows([(3, 4), (3, 4), (1, 2)], (1, 1), (3, 4), ([0, 1], [])), False)

    def test_it_shows_just_where_no_counted_ones_are_below_the_bound(self):
        for weights, step in some_scales():
            goals = reckoned_aims(weights, step)
            worst = number(rounded(weights, step)[2])
            for bound in some_bounds([worst, *goals]):
                told = shows(weights, step, pair(bound), paper(weights, step, pair(bound)))
                self.assertIs(told, bound <= worst)

    def test_for_the_worst_of_rounded(self):
        above = 0
        for weights, step in some_scales():
            worst = rounded(weights, step)[2]
            if worst == (0, 1):
                continue
            above += 1
            self.assertIs(shows(weights, step, worst, paper(weights, step, worst)), True)
            greater = pair((number(worst) + 1) / 2)
            self.assertIs(shows(weights, step, greater, paper(weights, step, greater)), False)
        self.assertGreater(above, 100)

    def test_false_of_another_one(self):
        right = ([2], [0, 1, 2])
        others = [
            ([], [0, 1, 2]), ([2], [0, 1]), ([2], [0, 2, 1]), ([2], [2, 1, 0]), ([2, 2], [0, 1, 2]), ([0], [0, 1, 2]),
            ([2], [0, 1, 2, 3]), ([1, 2], [0, 1, 2]), ([0, 1, 2], [2]), ([2], []), ([], []), ([0, 1, 2], [0, 1, 2]),
            ([-1], [0, 1, 2]), ([2], [0, 1, 2], []), ([2],), ([2], [0, 1, 1, 2]), ([2], [[0, 1, 2]]),
        ]
        self.assertIs(shows(THREE, (4, 1), (1, 2), right), True)
        for other in others:
            self.assertIs(shows(THREE, (4, 1), (1, 2), other), False)

    def test_lists_in_a_tuples_place_and_the_other_way_about(self):
        for other in [[[2], [0, 1, 2]], ((2,), [0, 1, 2]), ([2], (0, 1, 2)), ((2,), (0, 1, 2)), [(2,), (0, 1, 2)]]:
            self.assertIs(shows(THREE, (4, 1), (1, 2), other), False)

    def test_truths_in_places(self):
        weights, bound = [(1, 2), (1, 2)], (1, 2)
        self.assertIs(shows(weights, (1, 1), bound, ([0, 1], [0, 1])), True)
        for truths in itertools.product([0, False], [1, True], [0, False], [1, True]):
            thing = (list(truths[:2]), list(truths[2:]))
            wanted = not any(type(place) is bool for place in truths)
            self.assertIs(shows(weights, (1, 1), bound, thing), wanted)

    def test_of_anything(self):
        things = [*odd_things(), None, "([2], [0, 1, 2])", {0: [2], 1: [0, 1, 2]}, ([Odd()], [0, 1, 2]), {"up": [2]},
                  ([Alike()], [0, 1, 2]), (Alike(), Alike()), ([2], Odd()), ([2], [0, 1, (2, 1)]), ([2], [0, 1, "2"]),
                  ([2], [0, 1, None]), (None, None), ([2], None), (2, 0, 1, 2), ([2], {0, 1, 2}), ([2], range(3))]
        for thing in things:
            self.assertIs(shows(THREE, (4, 1), (1, 2), thing), False)
            self.assertIs(shows(THREE, (4, 1), (1, 1), thing), False)
            self.assertIs(shows(THREE, (4, 1), (1, 2), ([2], [0, 1, thing])), False)
            self.assertIs(shows(THREE, (4, 1), (1, 2), ([2], thing)), False)

    def test_what_was_handed_in_stays(self):
        weights, thing = list(THREE), ([2], [0, 1, 2])
        self.assertIs(shows(weights, (4, 1), (1, 2), thing), True)
        self.assertEqual((weights, thing), (THREE, ([2], [0, 1, 2])))


class TestCopies(unittest.TestCase):
    def test_told_lists(self):
        weights = list(THREE)
        told = [aims(weights, (4, 1)), rounded(weights, (4, 1))[0], *paper(weights, (4, 1), (1, 6))]
        again = [aims(weights, (4, 1)), rounded(weights, (4, 1))[0], *paper(weights, (4, 1), (1, 6))]
        wanted = [[(1, 6), (1, 3), (1, 2)], [0, 0, 1], [0, 1, 2], [0, 1, 2]]
        self.assertEqual(told, wanted)
        for one in told:
            one.clear()
        self.assertEqual(again, wanted)
        self.assertEqual(weights, THREE)

    def test_handed_lists(self):
        weights, counted = list(THREE), [0, 1, 0]
        told = [aims(weights, (4, 1)), rounded(weights, (4, 1)), paper(weights, (4, 1), (1, 6))]
        self.assertEqual(worst_of(weights, (4, 1), counted), (2, 3))
        self.assertEqual((weights, counted), (THREE, [0, 1, 0]))
        weights.clear()
        self.assertEqual(told, [aims(THREE, (4, 1)), rounded(THREE, (4, 1)), paper(THREE, (4, 1), (1, 6))])

    def test_up_and_down_are_two_lists(self):
        up, down = paper(THREE, (4, 1), (1, 6))
        up.clear()
        self.assertEqual(down, [0, 1, 2])

    def test_a_tuple_of_weights(self):
        three = tuple(THREE)
        self.assertEqual(aims(three, (4, 1)), aims(THREE, (4, 1)))
        self.assertEqual(rounded(three, (4, 1)), rounded(THREE, (4, 1)))
        self.assertEqual(worst_of(three, (4, 1), [0, 1, 0]), (2, 3))
        self.assertEqual(paper(three, (4, 1), (1, 2)), ([2], [0, 1, 2]))
        self.assertIs(shows(three, (4, 1), (1, 2), ([2], [0, 1, 2])), True)


class TestRefused(unittest.TestCase):
    def refused(self, error, weights, step):
        calls = [
            lambda: aims(weights, step), lambda: rounded(weights, step), lambda: worst_of(weights, step, [1]),
            lambda: paper(weights, step, (1, 2)), lambda: shows(weights, step, (1, 2), ([], [])),
            lambda: shows(weights, step, (1, 2), None),
        ]
        for call in calls:
            with self.assertRaises(error):
                call()

    def test_no_weights(self):
        wrong = [[], (), [(1, 1)] * 13, ((1, 1),) * 13, None, "", "weights", 1, (1, 1), {(1, 1)}, {(1, 1): (1, 1)},
                 range(3), iter(THREE)]
        for weights in wrong:
            self.refused(NoWeights, weights, (1, 1))

    def test_a_weight_that_is_none(self):
        for weight in [*odd_things(), *NONES]:
            self.refused(NoWeights, [weight], (1, 1))
            self.refused(NoWeights, [*THREE, weight], (1, 1))
            self.refused(NoWeights, (weight, *THREE), (1, 1))

    def test_of_anything(self):
        for thing in odd_things():
            if thing.__class__ is tuple and len(thing) == 2 and thing[0].__class__ is tuple:
                self.assertEqual(thing, ((1, 2), (1, 2)))
            else:
                self.refused(NoWeights, thing, (1, 1))
            self.refused(NoStep, THREE, thing)

    def test_no_step(self):
        for step in NONES:
            self.refused(NoStep, THREE, step)

    def test_too_little(self):
        self.refused(TooLittle, THREE, (7, 1))
        self.refused(TooLittle, THREE, (6000000000001, 1000000000000))
        self.refused(TooLittle, [(1, 999999999999)], (1, 1))
        self.assertEqual(rounded(THREE, (6, 1)), ([0, 0, 1], (0, 1), (1, 2)))

    def test_several_due_at_once(self):
        for weights in [[], None, [(1, 1)] * 13, [(0, 1)], [*THREE, (2, 2)], {}]:
            for step in [None, (0, 1), "1", (99, 1), [1, 1]]:
                self.refused(NoWeights, weights, step)
        for step in [None, (0, 1), (-7, 1), "1", [1, 1], (14, 2)]:
            self.refused(NoStep, THREE, step)

    def test_a_refusal_changes_nothing(self):
        weights, step = [*THREE, [1, [1]]], [1, [1]]
        self.refused(NoWeights, weights, step)
        self.refused(NoStep, THREE, step)
        self.assertEqual((weights, step, THREE), ([*THREE, [1, [1]]], [1, [1]], [(1, 1), (2, 1), (3, 1)]))


if __name__ == "__main__":
    unittest.main()
