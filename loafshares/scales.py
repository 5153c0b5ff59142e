"""Scales: weights rounded to steps, and papers that show that none are nearer."""

from loafshares.errors import NoStep, NoWeights, TooLittle
from loafshares.fractions import (
    ALL_OF_IT, NONE_OF_IT, floor_of, is_above_0, is_less, is_whole, minus, over, times, together,
)

MOST_WEIGHTS = 12


def are_weights(thing):
    """Whether a thing, whatever it is, is a list of weights."""
    if not isinstance(thing, (list, tuple)) or not 1 <= len(thing) <= MOST_WEIGHTS:
        return False
    return all([is_above_0(one) for one in thing])


def above_floor(one):
    """What a fraction has more than its floor."""
    return minus(one, (floor_of(one), 1))


def many_steps(weights, step):
    """How often the step goes into the weights together; what cannot be told of these is refused."""
    if not are_weights(weights):
        raise NoWeights("weights are a list of one to twelve fractions above 0")
    if not is_above_0(step):
        raise NoStep("a step is a fraction above 0")
    many = floor_of(over(together(weights), step))
    if many == 0:
        raise TooLittle("the weights together are less than one step")
    return many


def aims(weights, step):
    """The weights by all weights, times how many steps there are."""
    factor = over((many_steps(weights, step), 1), together(weights))
    return [times(weight, factor) for weight in weights]


def how_many_more(weights, step):
    """How many weights have to be counted one more than their floors."""
    floors = [floor_of(aim) for aim in aims(weights, step)]
    return many_steps(weights, step) - sum(floors)


def is_sooner(aboves, one, other):
    """Whether the place one is counted one more sooner than the place other."""
    if aboves[one] == aboves[other]:
        return one < other
    return is_less(aboves[other], aboves[one])


def are_sooner(aboves, place):
    """How many places are counted one more sooner than this one."""
    return len([other for other in range(len(aboves)) if is_sooner(aboves, other, place)])


def nearest(weights, step):
    """The weights counted so that none are nearer to their aims."""
    goals = aims(weights, step)
    counted = [floor_of(aim) for aim in goals]
    aboves = [above_floor(aim) for aim in goals]
    more = how_many_more(weights, step)
    for place in range(len(goals)):
        if are_sooner(aboves, place) < more:
            counted[place] += 1
    return counted


def worst_of(weights, step, counted):
    """The greatest difference of a count and its aim."""
    worst = NONE_OF_IT
    for aim, count in zip(aims(weights, step), counted):
        top, bottom = minus((count, 1), aim)
        if is_less(worst, (abs(top), bottom)):
            worst = (abs(top), bottom)
    return worst


def rounded(weights, step):
    """The weights counted in steps, what is left of them, and how far a count is off its aim."""
    counted = nearest(weights, step)
    rest = minus(together(weights), times((many_steps(weights, step), 1), step))
    return (counted, rest, worst_of(weights, step, counted))


def paper(weights, step, bound):
    """The places that cannot be counted their floors, and those that cannot be counted one more, below the bound."""
    aboves = [above_floor(aim) for aim in aims(weights, step)]
    up = [place for place, above in enumerate(aboves) if not is_less(above, bound)]
    down = [place for place, above in enumerate(aboves) if not is_less(minus(ALL_OF_IT, above), bound)]
    return (up, down)


def are_places(thing):
    """Whether a thing, whatever it is, is a list of whole numbers."""
    return isinstance(thing, list) and all([is_whole(place) for place in thing])


def is_like_a_paper(thing):
    """Whether a thing, whatever it is, is a tuple of two lists of whole numbers."""
    return isinstance(thing, tuple) and len(thing) == 2 and are_places(thing[0]) and are_places(thing[1])


def shows(weights, step, bound, thing):
    """Whether a thing, whatever it is, is the paper for the bound and shows that no worst is below it."""
    told = paper(weights, step, bound)
    # only of whole numbers alone is it known that they can be compared, and that none is a truth
    if not is_like_a_paper(thing) or thing != told:
        return False
    up, down = told
    more = how_many_more(weights, step)
    if any([place in down for place in up]):
        return True
    return len(up) > more or len(weights) - len(down) < more
