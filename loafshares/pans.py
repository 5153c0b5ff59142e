"""Pans: weights of dough told by counts of loaves, and back."""

from loafshares.doughs import Dough
from loafshares.errors import NoCount, NoPan
from loafshares.fractions import ALL_OF_IT, floor_of, is_above_0, is_less, is_name, is_whole, minus, over, times
from loafshares.sheets import refuse_no_weight, weighed_rows
from loafshares.stuffs import is_measure, measure_or_none_of_it


def is_loss(thing):
    """Whether a thing, whatever it is, is a loss."""
    return is_measure(thing) and is_less(thing, ALL_OF_IT)


def refuse_no_pan(name, weight, loss):
    """Refuse what no pan of this name and this loss can be made of, the weight filled in or baked."""
    if not is_name(name):
        raise NoPan("name")
    if not is_above_0(weight):
        raise NoPan("holds")
    if not is_loss(loss):
        raise NoPan("loss")


class Pan:
    """A name, what it holds, and by how much of that a loaf is less when it is baked."""

    def __init__(self, name, holds, loss=None):
        less = measure_or_none_of_it(loss)
        refuse_no_pan(name, holds, less)
        self.own_name = name
        self.own_holds = holds
        self.own_loss = less

    def __eq__(self, other):
        if not isinstance(other, Pan) or self.own_name != other.own_name:
            return False
        return self.own_holds == other.own_holds and self.own_loss == other.own_loss

    def __repr__(self):
        words = [repr(told) for told in (self.own_name, self.own_holds, self.own_loss)]
        return f"Pan({', '.join(words)})"

    def name(self):
        """Its name."""
        return self.own_name

    def holds(self):
        """The weight of dough that fills it."""
        return self.own_holds

    def loss(self):
        """How much of what it holds is gone when it is baked."""
        return self.own_loss

    def baked(self):
        """What one loaf weighs when it is baked."""
        return times(self.own_holds, minus(ALL_OF_IT, self.own_loss))


def loaves(weight, pan):
    """How many pans a weight of dough fills, and its rest."""
    refuse_no_weight(weight)
    count = floor_of(over(weight, pan.holds()))
    return (count, minus(weight, times((count, 1), pan.holds())))


def dough_for(count, pan):
    """The weight of dough that fills so many pans."""
    if not is_whole(count) or count < 1:
        raise NoCount("a count is a whole number from 1 on")
    return times((count, 1), pan.holds())


def pan_for(name, baked, loss=None):
    """The pan whose loaves weigh so much when they are baked."""
    less = measure_or_none_of_it(loss)
    refuse_no_pan(name, baked, less)
    return Pan(name, over(baked, minus(ALL_OF_IT, less)), less)


def scaled(dough, weight):
    """The dough with weights for its parts, together the weight."""
    refuse_no_weight(weight)
    return Dough(dough.name(), weighed_rows(dough, weight), dough.lead())
