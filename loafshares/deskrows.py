"""Rows that a desk is told, read word by word."""

from loafshares.errors import NoRow
from loafshares.fractions import is_name
from loafshares.words import fraction_of_word, in_twos, measures_of_words, whole_of_word

# what stands behind a row's first word; a dough, a stuff, a pan and an order are names of such as are there
FORMS = {
    "stuff": ("name",),
    "dough": ("name", "figures"),
    "pan": ("name", "fraction", "fraction"),
    "opened": ("dough",),
    "shares": ("dough",),
    "sheet": ("dough", "fraction"),
    "cost": ("dough", "fraction"),
    "feel": ("dough",),
    "loaves": ("fraction", "pan"),
    "change": ("stuff", "stuff", "stuff"),
    "parts": ("dough", "dough"),
    "text": (),
    "bring": ("figures", "stuff", "fraction"),
    "order": ("name", "dough", "pan", "figures", "figures"),
    "drop": ("order",),
    "tasks": (),
    "lacking": (),
    "most": ("dough", "pan", "figures"),
    "orders": (),
}


def told_by_word(kind, word):
    """What a word tells where a kind has to stand, None where it cannot stand there."""
    if kind == "figures":
        return whole_of_word(word)
    if kind == "fraction":
        return fraction_of_word(word)
    if is_name(word):
        return word
    return None


def rows_of_words(words):
    """The rows of a dough that words tell, None where they tell none."""
    pairs = in_twos(words)
    if pairs is None:
        return None
    rows = [(told_by_word("name", thing), fraction_of_word(parts)) for thing, parts in pairs]
    if any([None in row for row in rows]):
        return None
    return rows


def told_behind(first, words):
    """A list of what the words behind those of a row's form tell."""
    if first == "stuff":
        return [measures_of_words(words)]
    if first == "dough":
        return [rows_of_words(words)]
    # a word too many is one that cannot stand there
    return [None for word in words]


def read_row(row):
    """A row's first word, and a list of what those behind it tell."""
    if not isinstance(row, str):
        raise NoRow("a row is a text")
    first, *words = row.split(" ")
    if first not in FORMS:
        raise NoRow("no row begins so")
    form = FORMS[first]
    many = len(form)
    given = [told_by_word(kind, word) for kind, word in zip(form, words)]
    given += told_behind(first, words[many:])
    if len(words) < many or None in given:
        raise NoRow("no such row has these words")
    return (first, given)
