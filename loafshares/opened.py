"""What doughs come to, stuff by stuff."""

from loafshares.fractions import ALL_OF_IT, NONE_OF_IT, over, plus, times


def opened_by_rows(dough, inner):
    """What one weight of a dough comes to; inner tells this of the doughs that it has rows of."""
    total = dough.total()
    told = {}
    for thing, parts in dough.rows():
        much = over(parts, total)
        contents = inner.get(thing, {thing: ALL_OF_IT})
        for stuff, share in contents.items():
            told[stuff] = plus(told.get(stuff, NONE_OF_IT), times(much, share))
    return told


def opened(book, dough):
    """How much of each stuff is in one weight of a dough."""
    inner = {}
    for name in book.making([dough]):
        inner[name] = opened_by_rows(book.dough(name), inner)
    return inner[dough]


def measured(book, dough, word):
    """How much of a measure one weight of a dough has."""
    told = NONE_OF_IT
    for stuff, share in opened(book, dough).items():
        told = plus(told, times(share, book.stuff(stuff).measure(word)))
    return told
