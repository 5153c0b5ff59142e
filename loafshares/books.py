"""Books: stuffs, and doughs that are made of them and of one another."""

from loafshares.errors import NoName, Ring, Twice, Unknown
from loafshares.fractions import is_one_of
from loafshares.stuffs import Stuff


def refuse_twice(names):
    """Refuse names of which two are alike."""
    seen = set()
    for name in names:
        if name in seen:
            raise Twice(name)
        seen.add(name)


def refuse_unknown(doughs, names):
    """Refuse doughs with a row of a thing that is none of the names."""
    for dough in doughs:
        for thing, parts in dough.rows():
            if thing not in names:
                raise Unknown(dough.name(), thing)


def inner_doughs(doughs):
    """A dict from the doughs' names to lists of the names of those doughs that they have rows of."""
    names = [dough.name() for dough in doughs]
    return {dough.name(): [thing for thing, parts in dough.rows() if thing in names] for dough in doughs}


def next_made(waiting, made, inner):
    """The first one waiting all of whose inner ones are made, None where there is none."""
    for name in waiting:
        if all([thing in made for thing in inner[name]]):
            return name
    return None


def making_order(names, inner):
    """The names, each once and behind all within it, as far as they can be put so.

    names has all that are within those it has; inner tells the doughs that each one has rows of.
    """
    made = []
    waiting = sorted(set(names))
    name = next_made(waiting, made, inner)
    while name is not None:
        waiting.remove(name)
        made.append(name)
        name = next_made(waiting, made, inner)
    return made


def refuse_rings(inner):
    """Refuse doughs of which one is within itself."""
    made = making_order(list(inner), inner)
    unmade = [name for name in inner if name not in made]
    if len(unmade) == 0:
        return
    # each of these has a row of another one of them, so that a walk from one to the next comes back at last
    walked = []
    name = unmade[0]
    while name not in walked:
        walked.append(name)
        name = [thing for thing in inner[name] if thing in unmade][0]
    raise Ring(tuple(walked[walked.index(name):]))


def all_within(names, inner):
    """The names of all doughs within these, in no order."""
    found = []
    waiting = list(names)
    while len(waiting) > 0:
        name = waiting.pop()
        for thing in inner[name]:
            if thing not in found:
                found.append(thing)
                waiting.append(thing)
    return found


class Book:
    """Stuffs and doughs, each by its name."""

    def __init__(self, stuffs, doughs):
        names = [thing.name() for thing in [*stuffs, *doughs]]
        refuse_twice(names)
        refuse_unknown(doughs, names)
        inner = inner_doughs(doughs)
        refuse_rings(inner)
        self.own_stuffs = {stuff.name(): stuff for stuff in stuffs}
        self.own_doughs = {dough.name(): dough for dough in doughs}
        self.inner = inner

    def __eq__(self, other):
        if not isinstance(other, Book):
            return False
        if list(self.own_stuffs.values()) != list(other.own_stuffs.values()):
            return False
        return list(self.own_doughs.values()) == list(other.own_doughs.values())

    def __len__(self):
        return len(self.own_doughs)

    def stuffs(self):
        """The stuffs' names."""
        return list(self.own_stuffs)

    def doughs(self):
        """The doughs' names."""
        return list(self.own_doughs)

    def stuff(self, name):
        """The stuff of this name."""
        if not is_one_of(name, self.own_stuffs):
            raise NoName(name)
        return self.own_stuffs[name]

    def dough(self, name):
        """The dough of this name."""
        if not is_one_of(name, self.own_doughs):
            raise NoName(name)
        return self.own_doughs[name]

    def within(self, name):
        """The sorted names of all doughs within the dough of this name."""
        self.dough(name)
        return sorted(all_within([name], self.inner))

    def making(self, names):
        """The names of these doughs and of all within them, each behind all within it."""
        for name in names:
            self.dough(name)
        found = all_within(names, self.inner)
        return making_order([*names, *found], self.inner)

    def put(self, thing):
        """A book with this stuff or dough in the place of that one of its name, or behind the others."""
        stuffs = dict(self.own_stuffs)
        doughs = dict(self.own_doughs)
        if isinstance(thing, Stuff):
            stuffs[thing.name()] = thing
        else:
            doughs[thing.name()] = thing
        return Book(list(stuffs.values()), list(doughs.values()))
