"""What doughs cost, and which stuff parts two doughs."""

from loafshares.fractions import NONE_OF_IT, times
from loafshares.opened import measured, opened
from loafshares.sheets import refuse_no_weight


def cost(book, dough, weight):
    """What a weight of a dough costs."""
    price = measured(book, dough, "price")
    refuse_no_weight(weight)
    return times(price, weight)


def parting(book, dough, other, another):
    """The first stuff of which two doughs of two books come to unlike fractions, None where there is none."""
    ones = opened(book, dough)
    others = opened(other, another)
    for stuff in sorted({**ones, **others}):
        one = ones.get(stuff, NONE_OF_IT)
        two = others.get(stuff, NONE_OF_IT)
        if one != two:
            return (stuff, one, two)
    return None
