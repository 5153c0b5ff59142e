"""What doughs come to, stuff by stuff."""

from loafshares.fractions import ALL_OF_IT, add_to, over, times, together


def opened_by_rows(dough, inner):
    """What one weight of a dough comes to; inner tells this of the doughs that it has rows of."""
    total = dough.total()
    told = {}
    for thing, parts in dough.rows():
        much = over(parts, total)
        contents = inner.get(thing, {thing: ALL_OF_IT})
        for stuff, share in contents.items():
            add_to(told, stuff, times(much, share))
    return told


def opened(book, dough):
    """How much of each stuff is in one weight of a dough."""
    inner = {}
    for name in book.making([dough]):
        inner[name] = opened_by_rows(book.dough(name), inner)
    return inner[dough]


def measured(book, dough, word):
    """How much of a measure one weight of a dough has."""
    shares = opened(book, dough)
    return together([times(share, book.stuff(stuff).measure(word)) for stuff, share in shares.items()])


def measure_of_thing(book, thing, word):
    """How much of a measure one weight of a stuff or a dough has."""
    if thing in book.stuffs():
        return book.stuff(thing).measure(word)
    return measured(book, thing, word)


def measure_of_rows(book, rows, word):
    """How much of a measure the parts of rows have together."""
    return together([times(parts, measure_of_thing(book, thing, word)) for thing, parts in rows])
