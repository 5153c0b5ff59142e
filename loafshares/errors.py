"""What is refused, one class for each kind of refusal.

The words of a refusal never show a thing as it was handed in: showing it could fail in its turn.
"""


class LoafError(ValueError):
    """Any refusal."""


class NoFraction(LoafError):
    """Something by 0."""


class NoStuff(LoafError):
    """No stuff can be made of this; field is the first argument that is not as told."""

    def __init__(self, field):
        super().__init__(f"no stuff has such a {field}")
        self.field = field


class NoDough(LoafError):
    """No dough can be made of this; field is the first argument that is not as told."""

    def __init__(self, field):
        super().__init__(f"no dough has such a {field}")
        self.field = field


class NoPan(LoafError):
    """No pan can be made of this; field is the first argument that is not as told."""

    def __init__(self, field):
        super().__init__(f"no pan has such a {field}")
        self.field = field


class NoOrder(LoafError):
    """No order can be made of this; field is the first argument that is not as told."""

    def __init__(self, field):
        super().__init__(f"no order has such a {field}")
        self.field = field


class Twice(LoafError):
    """Two things of a book have one name, who."""

    def __init__(self, who):
        super().__init__("a name is there twice")
        self.who = who


class NoName(LoafError):
    """There is nothing by this name; who is what was handed in as a name, whatever it is."""

    def __init__(self, who):
        super().__init__("there is nothing by this name")
        self.who = who


class NoFlour(LoafError):
    """The dough, who, has no flour to tell shares by."""

    def __init__(self, who):
        super().__init__("a dough has no flour")
        self.who = who


class NoFeel(LoafError):
    """The dough, who, has no thirst to tell its feel by."""

    def __init__(self, who):
        super().__init__("a dough has no thirst")
        self.who = who


class Dry(LoafError):
    """The dough, who, would want less than nothing of a stuff."""

    def __init__(self, who):
        super().__init__("a dough would want less than nothing of a stuff")
        self.who = who


class Unknown(LoafError):
    """A row of the dough, where, has a thing, who, that the book does not have."""

    def __init__(self, where, who):
        super().__init__("a row has a thing that the book does not have")
        self.where = where
        self.who = who


class Ring(LoafError):
    """A dough is within itself; each of names has a row of the next one, the last one of the first."""

    def __init__(self, names):
        super().__init__("a dough is within itself")
        self.names = names


class Uneven(LoafError):
    """The flours of the shares do not make just one; told is what they make."""

    def __init__(self, told):
        super().__init__("the flours of the shares do not make just one")
        self.told = told


class Short(LoafError):
    """There is less of the stuff, who, than is taken; missing is how much less."""

    def __init__(self, who, missing):
        super().__init__("there is less of a stuff than is taken")
        self.who = who
        self.missing = missing


class NoWeight(LoafError):
    """This is no weight."""


class NoWeights(LoafError):
    """This is no list of weights."""


class NoStep(LoafError):
    """This is no step of a scale."""


class TooLittle(LoafError):
    """The weights together are less than one step."""


class NoWhole(LoafError):
    """This is no whole of the book's stuffs."""


class NoTaken(LoafError):
    """These are no doughs of the book that can be taken."""


class NoCount(LoafError):
    """This is no count of loaves."""


class NoBy(LoafError):
    """A flour cannot be changed by this stuff."""


class NoText(LoafError):
    """This is the text of no book."""


class NoHour(LoafError):
    """This is no hour."""


class Late(LoafError):
    """Some dough would be mixed ahead of hour 0, by so many hours."""

    def __init__(self, by):
        super().__init__("a dough would be mixed ahead of hour 0")
        self.by = by


class Lacking(LoafError):
    """Something lacks already."""


class NoRow(LoafError):
    """This is no row that a desk can be told."""
