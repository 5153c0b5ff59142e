"""Stuffs: what one weight of a thing has of flour, water and salt, what it takes, what it costs."""

from loafshares.errors import NoName, NoStuff
from loafshares.fractions import ALL_OF_IT, NONE_OF_IT, is_fraction, is_less, is_name, is_one_of, together

WORDS = ("flour", "water", "salt", "thirst", "price")


def measure_or_none_of_it(measure):
    """The measure, (0, 1) in the place of None."""
    if measure is None:
        return NONE_OF_IT
    return measure


def is_measure(thing):
    """Whether a thing, whatever it is, is a fraction from 0 on."""
    return is_fraction(thing) and thing[0] >= 0


def are_too_much(flour, water, salt):
    """Whether one weight cannot have these three measures together."""
    return is_less(ALL_OF_IT, together([flour, water, salt]))


def first_wrong(name, measures):
    """The name of the first argument that no stuff has, None where all are as told."""
    if not is_name(name):
        return "name"
    flour, water, salt = measures[:3]
    for word, measure in zip(WORDS, measures):
        if not is_measure(measure):
            return word
        # only here are all three known to be measures that can be added up
        if word == "salt" and are_too_much(flour, water, salt):
            return word
    return None


class Stuff:
    """A name and five measures of one weight."""

    def __init__(self, name, flour=None, water=None, salt=None, thirst=None, price=None):
        measures = tuple([measure_or_none_of_it(given) for given in (flour, water, salt, thirst, price)])
        wrong = first_wrong(name, measures)
        if wrong is not None:
            raise NoStuff(wrong)
        self.own_name = name
        self.measures = measures

    def __eq__(self, other):
        return isinstance(other, Stuff) and self.own_name == other.own_name and self.measures == other.measures

    def __repr__(self):
        words = [repr(told) for told in (self.own_name, *self.measures)]
        return f"Stuff({', '.join(words)})"

    def name(self):
        """Its name."""
        return self.own_name

    def flour(self):
        """How much of it is flour."""
        return self.measure("flour")

    def water(self):
        """How much of it is water."""
        return self.measure("water")

    def salt(self):
        """How much of it is salt."""
        return self.measure("salt")

    def thirst(self):
        """How much water it takes."""
        return self.measure("thirst")

    def price(self):
        """What it costs."""
        return self.measure("price")

    def measure(self, word):
        """The measure that a word names."""
        if not is_one_of(word, WORDS):
            raise NoName(word)
        return self.measures[WORDS.index(word)]
