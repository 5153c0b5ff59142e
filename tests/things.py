"""Things that a caller may hand in where the document says "of anything"."""


class Odd:
    """Fails whenever it is compared, measured, shown or asked for its truth."""

    def refuse(self, *rest):
        raise RuntimeError("this thing was touched")

    __eq__ = __ne__ = __lt__ = __gt__ = __le__ = __ge__ = refuse
    __hash__ = __len__ = __bool__ = __iter__ = __getitem__ = __contains__ = refuse
    __repr__ = __str__ = __int__ = __index__ = refuse


class Alike:
    """Says that it equals whatever it is compared with."""

    def __eq__(self, other):
        return True

    def __hash__(self):
        return hash("flour")


def ringed():
    """A list that has itself as an item."""
    ring = [1]
    ring.append(ring)
    return ring


def odd_things():
    """Things that are neither fractions nor names nor None, made anew for each call."""
    return [
        True, False, 0, 1, -1, 10 ** 5000, "", " ", "A", "1/2", "(1, 2)", b"", b"rye", b"flour",
        [], [1, 2], ["rye"], (), (1,), (1, 2, 3), ("rye",), ("1", "2"), (None, None), ((1, 2), (1, 2)),
        {}, {1: 2}, {"rye": (1, 2)}, set(), {1, 2}, frozenset([1, 2]), range(2), iter([1, 2]), ringed(),
        object(), object, int, str, len, lambda: 1, NotImplemented, ..., Odd(), Alike(), (Odd(), Odd()),
        (Alike(), Alike()), ValueError("rye"),
    ]
