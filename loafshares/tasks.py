"""What orders want hour by hour: doughs that are mixed, stuffs that are used, what lacks, the most loaves.

Weights by hours are dicts from tuples (hour, name) to weights.
"""

from loafshares.fractions import NONE_OF_IT, add_to, floor_of, is_less, minus, over, plus
from loafshares.sheets import weighed_rows


def hours_ahead(book, dough):
    """How many hours ahead of the hour at which a dough is ready the first one for it is mixed."""
    ahead = {}
    for name in book.making([dough]):
        made = book.dough(name)
        ahead[name] = made.lead() + max([ahead.get(thing, 0) for thing, parts in made.rows()])
    return ahead[dough]


def mixed_and_used(book, wanted):
    """The doughs that are mixed and the stuffs that are used, weights by hours.

    wanted is a list of tuples (hour, dough, weight) of what is to be ready.
    """
    ready = {}
    for hour, name, weight in wanted:
        add_to(ready, (hour, name), weight)
    mixed = {}
    used = {}
    order = book.making([name for hour, name in ready])
    # the outer ones first: when a dough is ready is known once all that have rows of it are there
    for dough in reversed(order):
        made = book.dough(dough)
        hours = [hour for hour, name in ready if name == dough]
        for hour in hours:
            start = hour - made.lead()
            mixed[(start, dough)] = ready[(hour, dough)]
            for thing, much in weighed_rows(made, ready[(hour, dough)]):
                if thing in order:
                    add_to(ready, (start, thing), much)
                else:
                    add_to(used, (start, thing), much)
    return (mixed, used)


def listed(weights):
    """Weights by hours as a sorted list of tuples (hour, name, weight)."""
    return [(hour, name, weights[(hour, name)]) for hour, name in sorted(weights)]


def more_at(at, brought, used):
    """By how much there is more of a stuff at an hour, below 0 where there is less."""
    return minus(brought.get(at, NONE_OF_IT), used.get(at, NONE_OF_IT))


def all_lacking(used, brought):
    """A sorted list of tuples (hour, stuff, weight) of all that lacks."""
    spare = {}
    told = []
    for hour, stuff in sorted({**used, **brought}):
        rest = plus(spare.get(stuff, NONE_OF_IT), more_at((hour, stuff), brought, used))
        if is_less(rest, NONE_OF_IT):
            told.append((hour, stuff, minus(NONE_OF_IT, rest)))
            # what lacks is told once: from here on it counts as brought
            rest = NONE_OF_IT
        spare[stuff] = rest
    return told


def most_loaves(used, brought, loaf):
    """The greatest count of loaves with which nothing lacks, and at which hour which stuff lacks first with one more.

    loaf is what one loaf uses; without any nothing lacks.
    """
    spare = {}
    needed = {}
    bounds = []
    for hour, stuff in sorted({**used, **brought, **loaf}):
        add_to(spare, stuff, more_at((hour, stuff), brought, used))
        add_to(needed, stuff, loaf.get((hour, stuff), NONE_OF_IT))
        if needed[stuff] != NONE_OF_IT:
            bounds.append((floor_of(over(spare[stuff], needed[stuff])), hour, stuff))
    return min(bounds)
