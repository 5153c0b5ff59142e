"""Fractions, tuples (top, bottom) in lowest terms with the bottom above 0, and names."""

from loafshares.errors import NoFraction

NONE_OF_IT = (0, 1)
ALL_OF_IT = (1, 1)
LETTERS = "abcdefghijklmnopqrstuvwxyz"
LONGEST_NAME = 10


def is_whole(thing):
    """Whether a thing, whatever it is, is a whole number."""
    return isinstance(thing, int) and not isinstance(thing, bool)


def common(one, other):
    """The greatest whole number that goes into both; neither of them is below 0."""
    while other != 0:
        one, other = other, one % other
    return one


def fraction(top, bottom):
    """The fraction of two whole numbers."""
    if bottom == 0:
        raise NoFraction("nothing is told by 0")
    if bottom < 0:
        return fraction(-top, -bottom)
    shared = common(abs(top), bottom)
    return (top // shared, bottom // shared)


def plus(one, other):
    """The sum of two fractions."""
    return fraction(one[0] * other[1] + other[0] * one[1], one[1] * other[1])


def minus(one, other):
    """What one has more than the other."""
    return fraction(one[0] * other[1] - other[0] * one[1], one[1] * other[1])


def times(one, other):
    """The product of two fractions."""
    return fraction(one[0] * other[0], one[1] * other[1])


def over(one, other):
    """The quotient of one by the other."""
    return fraction(one[0] * other[1], one[1] * other[0])


def together(ones):
    """All fractions of a list added up."""
    told = NONE_OF_IT
    for one in ones:
        told = plus(told, one)
    return told


def add_to(sums, name, more):
    """Add a fraction to that one which a dict has for a name, to 0 where it has none."""
    sums[name] = plus(sums.get(name, NONE_OF_IT), more)


def is_less(one, other):
    """Whether one is less than the other."""
    return one[0] * other[1] < other[0] * one[1]


def floor_of(one):
    """The greatest whole number not above a fraction."""
    return one[0] // one[1]


def is_fraction(thing):
    """Whether a thing, whatever it is, is a fraction."""
    if not isinstance(thing, tuple) or len(thing) != 2:
        return False
    top, bottom = thing
    if not is_whole(top) or not is_whole(bottom):
        return False
    return bottom > 0 and common(abs(top), bottom) == 1


def is_above_0(thing):
    """Whether a thing, whatever it is, is a fraction above 0."""
    return is_fraction(thing) and thing[0] > 0


def fraction_text(one):
    """The text of a fraction, without a bottom of 1."""
    top, bottom = one
    if bottom == 1:
        return f"{top}"
    return f"{top}/{bottom}"


def is_name(thing):
    """Whether a thing, whatever it is, is a name."""
    if not isinstance(thing, str) or not 1 <= len(thing) <= LONGEST_NAME:
        return False
    return all([sign in LETTERS for sign in thing])


def is_one_of(thing, names):
    """Whether a thing, whatever it is, is one of the names."""
    return isinstance(thing, str) and thing in names
