"""Wholes of stuffs: what is left of them when doughs are taken, and doughs put together of both."""

from loafshares.doughs import Dough, is_lead
from loafshares.errors import NoDough, NoTaken, NoWhole, Short, Twice
from loafshares.fractions import NONE_OF_IT, add_to, is_above_0, is_less, is_name, is_one_of, minus, times
from loafshares.opened import opened


def refuse_no_whole(book, whole):
    """Refuse a thing, whatever it is, that is no whole of the book's stuffs."""
    if not isinstance(whole, dict) or len(whole) == 0:
        raise NoWhole("a whole is a dict of one stuff or more")
    stuffs = book.stuffs()
    for name, weight in whole.items():
        if not is_one_of(name, stuffs) or not is_above_0(weight):
            raise NoWhole("a whole has weights of the book's stuffs")


def is_taken(thing, doughs):
    """Whether a thing, whatever it is, is a weight of one of the doughs."""
    if not isinstance(thing, tuple) or len(thing) != 2:
        return False
    return is_one_of(thing[0], doughs) and is_above_0(thing[1])


def refuse_no_taken(book, taken):
    """Refuse a thing, whatever it is, that is no list of taken doughs of the book."""
    if not isinstance(taken, (list, tuple)):
        raise NoTaken("taken doughs are a list")
    doughs = book.doughs()
    if not all([is_taken(row, doughs) for row in taken]):
        raise NoTaken("taken are weights of the book's doughs")
    if len(set([row[0] for row in taken])) < len(taken):
        raise NoTaken("a dough is taken once")


def come_to(book, taken):
    """How much of each stuff the taken doughs come to."""
    weights = {}
    for dough, weight in taken:
        for stuff, share in opened(book, dough).items():
            add_to(weights, stuff, times(share, weight))
    return weights


def left(book, whole, taken):
    """How much of each stuff of a whole is there when the doughs are taken from it."""
    refuse_no_whole(book, whole)
    refuse_no_taken(book, taken)
    wanted = come_to(book, taken)
    for stuff in sorted(wanted):
        there = whole.get(stuff, NONE_OF_IT)
        if is_less(there, wanted[stuff]):
            raise Short(stuff, minus(wanted[stuff], there))
    rests = {stuff: minus(there, wanted.get(stuff, NONE_OF_IT)) for stuff, there in whole.items()}
    return {stuff: rest for stuff, rest in rests.items() if rest != NONE_OF_IT}


def rejoined(book, name, whole, taken, lead=0):
    """The dough of the taken doughs and of what is left of the whole."""
    if not is_name(name):
        raise NoDough("name")
    if not is_lead(lead):
        raise NoDough("lead")
    if name in book.stuffs() or name in book.doughs():
        raise Twice(name)
    rests = left(book, whole, taken)
    rows = [(stuff, rests[stuff]) for stuff in sorted(rests)]
    return Dough(name, list(taken) + rows, lead)
