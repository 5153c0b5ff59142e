"""Sheets: what is weighed for a weight of a dough, each dough within it once."""

from loafshares.errors import NoWeight
from loafshares.fractions import add_to, is_above_0, over, times


def refuse_no_weight(thing):
    """Refuse a thing, whatever it is, that is no weight."""
    if not is_above_0(thing):
        raise NoWeight("a weight is a fraction above 0")


def weighed_rows(dough, weight):
    """A dough's rows, with weights that are the weight together in the place of parts."""
    factor = over(weight, dough.total())
    return [(thing, times(parts, factor)) for thing, parts in dough.rows()]


def sheet(book, dough, weight):
    """What is weighed for each dough that is made, in making order."""
    order = book.making([dough])
    refuse_no_weight(weight)
    wanted = {dough: weight}
    pages = []
    # the outer ones first: how much of a dough is made is known once all that have rows of it are there
    for name in reversed(order):
        rows = weighed_rows(book.dough(name), wanted[name])
        pages.append((name, wanted[name], rows))
        for thing, much in rows:
            add_to(wanted, thing, much)
    return pages[::-1]


def weighed(book, dough, weight):
    """How much of each stuff a sheet weighs."""
    stuffs = book.stuffs()
    weights = {}
    for name, made, rows in sheet(book, dough, weight):
        for thing, much in rows:
            if thing in stuffs:
                add_to(weights, thing, much)
    return weights
