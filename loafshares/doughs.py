"""Doughs: how many parts of which things go into them, and how long they stand ahead."""

from loafshares.errors import NoDough
from loafshares.fractions import is_above_0, is_name, is_whole, together

MOST_ROWS = 8
LONGEST_LEAD = 99


def is_row(thing):
    """Whether a thing, whatever it is, is a row."""
    if not isinstance(thing, tuple) or len(thing) != 2:
        return False
    return is_name(thing[0]) and is_above_0(thing[1])


def are_rows(thing):
    """Whether a thing, whatever it is, is a list of rows that a dough may have."""
    if not isinstance(thing, (list, tuple)) or not 1 <= len(thing) <= MOST_ROWS:
        return False
    if not all([is_row(row) for row in thing]):
        return False
    return len(set([row[0] for row in thing])) == len(thing)


def is_lead(thing):
    """Whether a thing, whatever it is, is a lead."""
    return is_whole(thing) and 0 <= thing <= LONGEST_LEAD


class Dough:
    """A name, rows, and a lead."""

    def __init__(self, name, rows, lead=0):
        if not is_name(name):
            raise NoDough("name")
        if not are_rows(rows):
            raise NoDough("rows")
        if not is_lead(lead):
            raise NoDough("lead")
        self.own_name = name
        self.own_rows = tuple(rows)
        self.own_lead = lead

    def __eq__(self, other):
        if not isinstance(other, Dough) or self.own_name != other.own_name:
            return False
        return self.own_rows == other.own_rows and self.own_lead == other.own_lead

    def __len__(self):
        return len(self.own_rows)

    def __repr__(self):
        words = [repr(told) for told in (self.own_name, list(self.own_rows), self.own_lead)]
        return f"Dough({', '.join(words)})"

    def name(self):
        """Its name."""
        return self.own_name

    def rows(self):
        """Its rows, a list of tuples (thing, parts)."""
        return list(self.own_rows)

    def lead(self):
        """The hours that it stands ahead once it is mixed."""
        return self.own_lead

    def total(self):
        """All parts together."""
        return together([parts for thing, parts in self.own_rows])
