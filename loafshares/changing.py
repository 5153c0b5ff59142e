"""Books with one flour changed for another one, and what that moves."""

from loafshares.doughs import Dough
from loafshares.errors import Dry, NoBy, NoFeel, NoName
from loafshares.fractions import NONE_OF_IT, is_less, minus, over, plus, times
from loafshares.opened import measure_of_rows, opened
from loafshares.shares import feel


def refuse_no_change(book, old, new, by):
    """Refuse what a book cannot be changed from, to, and by."""
    for name in (old, new, by):
        book.stuff(name)
    if old == new or old == by or new == by:
        raise NoBy("old, new and by are three stuffs")
    stuff = book.stuff(by)
    if stuff.water() == NONE_OF_IT or stuff.thirst() != NONE_OF_IT:
        raise NoBy("by has water and no thirst")


def swapped(rows, old, new):
    """The rows with as much of new as they had of old besides."""
    parts = dict(rows)
    if old not in parts:
        return rows
    if new not in parts:
        return [(new if thing == old else thing, much) for thing, much in rows]
    both = plus(parts[old], parts[new])
    return [(thing, both if thing == new else much) for thing, much in rows if thing != old]


def parts_of_by(book, name, rows, by, wanted):
    """How many parts of by, besides these rows, a dough of the book has that has the wanted feel."""
    thirst = measure_of_rows(book, rows, "thirst")
    if thirst == NONE_OF_IT:
        raise NoFeel(name)
    # by has no thirst, so that its parts move the water alone
    lacking = minus(times(wanted, thirst), measure_of_rows(book, rows, "water"))
    parts = over(lacking, book.stuff(by).water())
    if is_less(parts, NONE_OF_IT):
        raise Dry(name)
    return parts


def evened(book, name, rows, by, wanted):
    """The rows with so many parts of by that they have the wanted feel."""
    others = [(thing, much) for thing, much in rows if thing != by]
    parts = parts_of_by(book, name, others, by, wanted)
    if parts == NONE_OF_IT:
        return others
    return [(thing, parts if thing == by else much) for thing, much in rows]


def changed(book, old, new, by):
    """The book with new in the place of old, and as much of by as keeps the feel of the doughs."""
    refuse_no_change(book, old, new, by)
    told = book
    for name in book.making(book.doughs()):
        dough = book.dough(name)
        rows = swapped(dough.rows(), old, new)
        if by in dict(rows) and old in opened(book, name):
            # all doughs within this one are changed by now
            rows = evened(told, name, rows, by, feel(book, name))
        told = told.put(Dough(name, rows, dough.lead()))
    return told


def dough_moves(name, before, behind):
    """The moves of the dough of this name, before and behind its parts by things."""
    things = [*before, *[thing for thing in behind if thing not in before]]
    told = [(name, thing, before.get(thing, NONE_OF_IT), behind.get(thing, NONE_OF_IT)) for thing in things]
    return [move for move in told if move[2] != move[3]]


def moves(book, other):
    """Which parts of which things are others in the doughs of the other book."""
    alone = sorted(set(book.doughs()) ^ set(other.doughs()))
    if len(alone) > 0:
        raise NoName(alone[0])
    told = []
    for name in book.doughs():
        told += dough_moves(name, dict(book.dough(name).rows()), dict(other.dough(name).rows()))
    return told
