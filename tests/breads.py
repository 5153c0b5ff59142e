"""Stuffs, doughs and books for the tests, and what doughs come to, reckoned another way."""

from fractions import Fraction
from random import Random
from string import ascii_lowercase

from loafshares.books import Book
from loafshares.doughs import Dough
from loafshares.stuffs import Stuff


def pair(number):
    """A number as the program tells it."""
    return (Fraction(number).numerator, Fraction(number).denominator)


def number(one):
    """A fraction that the program tells as a number."""
    return Fraction(*one)


def stuffs():
    return [
        Stuff("wheat", flour=(1, 1), thirst=(3, 5), price=(2, 1)),
        Stuff("rye", flour=(1, 1), thirst=(4, 5), price=(3, 1)),
        Stuff("water", water=(1, 1)),
        Stuff("salt", salt=(1, 1), price=(1, 2)),
        Stuff("milk", water=(9, 10), price=(5, 4)),
        Stuff("seed", thirst=(1, 4)),
    ]


def doughs():
    """Outer ones ahead of inner ones, and behind them; sour is wanted by two."""
    return [
        Dough("loaf", [("wheat", (6, 1)), ("sponge", (3, 1)), ("water", (2, 1)), ("salt", (1, 5)), ("sour", (1, 2))], 2),
        Dough("sour", [("rye", (1, 1)), ("water", (1, 1))], 12),
        Dough("sponge", [("wheat", (2, 1)), ("sour", (1, 2)), ("water", (3, 2))], 5),
        Dough("roll", [("milk", (1, 3)), ("wheat", (2, 3))]),
        Dough("brine", [("water", (9, 1)), ("salt", (1, 1))]),
        Dough("soak", [("seed", (1, 1)), ("brine", (2, 1))], 1),
    ]


def book():
    return Book(stuffs(), doughs())


def other_book():
    """A book with doughs of the same names that come to other things."""
    changed = [Dough(dough.name(), [("milk", (1, 1)), ("rye", (2, 1))], dough.lead()) for dough in doughs()]
    return Book(stuffs(), changed)


def some_names(random, many):
    """Unlike names, some of which begin alike."""
    names = []
    while len(names) < many:
        name = "".join(random.choice(ascii_lowercase[:3]) for _ in range(random.randint(1, 4)))
        if name not in names:
            names.append(name)
    return names


def some_fraction(random, figures=2):
    """A fraction above 0 of at most so many figures above and below."""
    most = 10 ** random.randint(1, figures) - 1
    return pair(Fraction(random.randint(1, most), random.randint(1, most)))


def some_stuff(random, name):
    cuts = sorted(random.randint(0, 10) for _ in range(3))
    parts = [cuts[0], cuts[1] - cuts[0], cuts[2] - cuts[1]]
    thirst, price = random.randint(0, 9), random.randint(0, 9)
    return Stuff(name, *[pair(Fraction(part, 10)) for part in parts], pair(Fraction(thirst, 7)), pair(price))


def some_book(seed, most_stuffs=12, most_doughs=11):
    """A book made by chance, the same of the same seed, doughs in any order."""
    random = Random(seed)
    many = random.randint(1, most_stuffs)
    names = some_names(random, many + random.randint(1, most_doughs))
    made = []
    for at in range(many, len(names)):
        things = random.sample(names[:at], min(at, random.randint(1, 8)))
        made.append(Dough(names[at], [(thing, some_fraction(random)) for thing in things], random.randint(0, 99)))
    random.shuffle(made)
    return Book([some_stuff(random, name) for name in names[:many]], made)


def some_books():
    return [some_book(seed) for seed in range(60)]


def reckoned(one, name):
    """What a dough comes to, from the outermost one inwards, path by path."""
    if name in one.stuffs():
        return {name: Fraction(1)}
    rows = one.dough(name).rows()
    total = sum(Fraction(*parts) for _, parts in rows)
    made = {}
    for thing, parts in rows:
        for stuff, share in reckoned(one, thing).items():
            made[stuff] = made.get(stuff, 0) + Fraction(*parts) / total * share
    return made


def reckoned_measure(one, name, word):
    return sum(share * Fraction(*one.stuff(stuff).measure(word)) for stuff, share in reckoned(one, name).items())
