"""A bench of days: what is brought, what is ordered, and what has to be done for it at which hours."""

from loafshares.errors import Lacking, Late, NoHour, NoName, NoOrder
from loafshares.fractions import add_to, is_name, is_one_of, is_whole
from loafshares.pans import Pan, dough_for
from loafshares.sheets import refuse_no_weight
from loafshares.tasks import all_lacking, hours_ahead, listed, mixed_and_used, most_loaves

LAST_HOUR = 9999
MOST_LOAVES = 999


def refuse_no_hour(thing):
    """Refuse a thing, whatever it is, that is no hour."""
    if not is_whole(thing) or not 0 <= thing <= LAST_HOUR:
        raise NoHour("an hour is a whole number from 0 to 9999")


def refuse_no_loaf(book, dough, pan):
    """Refuse things, whatever they are, that are no dough of the book and no pan."""
    if not is_one_of(dough, book.doughs()):
        raise NoOrder("dough")
    if not isinstance(pan, Pan):
        raise NoOrder("pan")


def refuse_late(book, dough, hour):
    """Refuse an hour at which a dough cannot be ready, and whatever is no hour."""
    refuse_no_hour(hour)
    late = hours_ahead(book, dough) - hour
    if late > 0:
        raise Late(late)


class Bench:
    """A book, weights of stuffs that are brought, and orders."""

    def __init__(self, book):
        self.own_book = book
        self.brought = {}
        self.wanted = {}

    def book(self):
        """Its book."""
        return self.own_book

    def bring(self, hour, stuff, weight):
        """Let a weight of a stuff be brought at an hour."""
        self.own_book.stuff(stuff)
        refuse_no_hour(hour)
        refuse_no_weight(weight)
        add_to(self.brought, (hour, stuff), weight)

    def order(self, name, dough, pan, count, hour):
        """Order so many pans of a dough, to be filled at an hour."""
        if not is_name(name) or name in self.wanted:
            raise NoOrder("name")
        refuse_no_loaf(self.own_book, dough, pan)
        if not is_whole(count) or not 1 <= count <= MOST_LOAVES:
            raise NoOrder("count")
        refuse_late(self.own_book, dough, hour)
        self.wanted[name] = (hour, dough, dough_for(count, pan))

    def drop(self, name):
        """Let an order go."""
        if not is_one_of(name, self.wanted):
            raise NoName(name)
        del self.wanted[name]

    def orders(self):
        """The sorted names of all orders."""
        return sorted(self.wanted)

    def plan(self):
        """The doughs that are mixed and the stuffs that are used for all orders, weights by hours."""
        return mixed_and_used(self.own_book, list(self.wanted.values()))

    def tasks(self):
        """How much of which dough is mixed at which hour."""
        return listed(self.plan()[0])

    def used(self):
        """How much of which stuff is used at which hour."""
        return listed(self.plan()[1])

    def lacking(self):
        """How much of which stuff lacks at which hour."""
        return all_lacking(self.plan()[1], self.brought)

    def most(self, dough, pan, hour):
        """The most loaves that can be ordered besides, and at which hour which stuff lacks with one more."""
        refuse_no_loaf(self.own_book, dough, pan)
        refuse_late(self.own_book, dough, hour)
        used = self.plan()[1]
        if len(all_lacking(used, self.brought)) > 0:
            raise Lacking("something lacks already")
        loaf = mixed_and_used(self.own_book, [(hour, dough, pan.holds())])[1]
        return most_loaves(used, self.brought, loaf)
