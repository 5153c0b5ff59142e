"""Doughs told by shares to their flour as a whole, and made of such shares."""

from loafshares.doughs import Dough
from loafshares.errors import NoFeel, NoFlour, Uneven, Unknown
from loafshares.fractions import ALL_OF_IT, NONE_OF_IT, over, times
from loafshares.opened import measure_of_rows, measured, opened


def flour_of(book, dough):
    """The flour of one weight of a dough, above 0."""
    flour = measured(book, dough, "flour")
    if flour == NONE_OF_IT:
        raise NoFlour(dough)
    return flour


def shares(book, dough):
    """How much of each stuff a dough has by its flour."""
    flour = flour_of(book, dough)
    return {stuff: over(much, flour) for stuff, much in opened(book, dough).items()}


def row_shares(book, dough):
    """How much of the thing of each row a dough has by its flour."""
    flour = flour_of(book, dough)
    made = book.dough(dough)
    whole = times(made.total(), flour)
    return [(thing, over(parts, whole)) for thing, parts in made.rows()]


def feel(book, dough):
    """A dough's water by its thirst."""
    thirst = measured(book, dough, "thirst")
    if thirst == NONE_OF_IT:
        raise NoFeel(dough)
    return over(measured(book, dough, "water"), thirst)


def by_shares(book, name, rows, lead=0):
    """The dough whose rows' shares are these rows."""
    made = Dough(name, rows, lead)
    for thing, share in made.rows():
        if thing not in book.stuffs() and thing not in book.doughs():
            raise Unknown(name, thing)
    told = measure_of_rows(book, made.rows(), "flour")
    if told != ALL_OF_IT:
        raise Uneven(told)
    return made
