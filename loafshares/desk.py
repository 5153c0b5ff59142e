"""A desk that is told rows of words and answers with texts."""

from loafshares.bench import Bench
from loafshares.books import Book
from loafshares.booktexts import book_rows
from loafshares.changing import changed, moves
from loafshares.costs import cost, parting
from loafshares.deskrows import FORMS, read_row
from loafshares.doughs import Dough
from loafshares.errors import NoName
from loafshares.fractions import fraction_text
from loafshares.opened import opened
from loafshares.pans import Pan, loaves
from loafshares.shares import feel, shares
from loafshares.sheets import sheet
from loafshares.stuffs import Stuff

DONE = "ok"


def word_of(thing):
    """The word of a fraction, a whole number or a name."""
    if isinstance(thing, tuple):
        return fraction_text(thing)
    return f"{thing}"


def words_of(told):
    """The words of a tuple."""
    return " ".join([word_of(thing) for thing in told])


def all_words_of(rows):
    """The words of each tuple of a list."""
    return "; ".join([words_of(told) for told in rows])


def put_into_book(desk, thing):
    """Put a stuff or a dough into the desk's book."""
    desk.bench = Bench(desk.bench.book().put(thing))
    return DONE


def say_stuff(desk, name, measures):
    """Put a stuff of these measures into the book."""
    return put_into_book(desk, Stuff(name, **measures))


def say_dough(desk, name, lead, rows):
    """Put a dough of these rows into the book."""
    return put_into_book(desk, Dough(name, rows, lead))


def say_pan(desk, name, holds, loss):
    """Keep a pan by its name."""
    desk.pans[name] = Pan(name, holds, loss)
    return DONE


def say_opened(desk, dough):
    """What a dough comes to."""
    return all_words_of(sorted(opened(desk.bench.book(), dough).items()))


def say_shares(desk, dough):
    """What a dough comes to by its flour."""
    return all_words_of(sorted(shares(desk.bench.book(), dough).items()))


def say_sheet(desk, dough, weight):
    """How much of each dough is made for a weight of a dough."""
    return all_words_of([(name, made) for name, made, rows in sheet(desk.bench.book(), dough, weight)])


def say_cost(desk, dough, weight):
    """What a weight of a dough costs."""
    return fraction_text(cost(desk.bench.book(), dough, weight))


def say_feel(desk, dough):
    """A dough's water by its thirst."""
    return fraction_text(feel(desk.bench.book(), dough))


def say_loaves(desk, weight, pan):
    """How many pans a weight fills, and its rest."""
    return words_of(loaves(weight, desk.pans[pan]))


def say_change(desk, old, new, by):
    """Change the book, and tell the moves."""
    before = desk.bench.book()
    behind = changed(before, old, new, by)
    desk.bench = Bench(behind)
    return all_words_of(moves(before, behind))


def say_parts(desk, dough, another):
    """Which stuff parts two doughs."""
    book = desk.bench.book()
    told = parting(book, dough, book, another)
    if told is None:
        return "same"
    return words_of(told)


def say_text(desk):
    """The rows of the book's text."""
    return "; ".join(book_rows(desk.bench.book()))


def say_bring(desk, hour, stuff, weight):
    """Let a weight of a stuff be brought."""
    desk.bench.bring(hour, stuff, weight)
    return DONE


def say_order(desk, name, dough, pan, count, hour):
    """Order so many pans of a dough."""
    desk.bench.order(name, dough, desk.pans[pan], count, hour)
    return DONE


def say_drop(desk, name):
    """Let an order go."""
    desk.bench.drop(name)
    return DONE


def say_tasks(desk):
    """What is mixed at which hours."""
    return all_words_of(desk.bench.tasks())


def say_lacking(desk):
    """What lacks at which hours."""
    return all_words_of(desk.bench.lacking())


def say_most(desk, dough, pan, hour):
    """The most loaves that can be ordered besides, and what lacks with one more."""
    return words_of(desk.bench.most(dough, desk.pans[pan], hour))


def say_orders(desk):
    """The names of all orders."""
    return words_of(desk.bench.orders())


ANSWERS = {
    "stuff": say_stuff,
    "dough": say_dough,
    "pan": say_pan,
    "opened": say_opened,
    "shares": say_shares,
    "sheet": say_sheet,
    "cost": say_cost,
    "feel": say_feel,
    "loaves": say_loaves,
    "change": say_change,
    "parts": say_parts,
    "text": say_text,
    "bring": say_bring,
    "order": say_order,
    "drop": say_drop,
    "tasks": say_tasks,
    "lacking": say_lacking,
    "most": say_most,
    "orders": say_orders,
}


def refuse_no_names(desk, first, given):
    """Refuse the first name by which there is nothing where there has to be."""
    book = desk.bench.book()
    there = {"dough": book.doughs(), "stuff": book.stuffs(), "pan": list(desk.pans), "order": desk.bench.orders()}
    for kind, told in zip(FORMS[first], given):
        if kind in there and told not in there[kind]:
            raise NoName(told)


class Desk:
    """A bench of a book, and pans by their names."""

    def __init__(self):
        # the book is the bench's own: with another book there is an empty bench
        self.bench = Bench(Book([], []))
        self.pans = {}

    def say(self, row):
        """Do what a row tells, and answer it."""
        first, given = read_row(row)
        refuse_no_names(self, first, given)
        answer = ANSWERS[first]
        return answer(self, *given)
