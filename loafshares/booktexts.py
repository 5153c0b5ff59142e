"""Books as texts, and read again."""

from loafshares.books import Book
from loafshares.doughs import Dough
from loafshares.errors import LoafError, NoText
from loafshares.fractions import NONE_OF_IT, fraction_text
from loafshares.stuffs import WORDS, Stuff
from loafshares.words import fraction_of_word, measures_of_words, whole_of_word


def stuff_row(stuff):
    """The row of a stuff."""
    words = ["stuff", stuff.name()]
    for word in WORDS:
        if stuff.measure(word) != NONE_OF_IT:
            words += [word, fraction_text(stuff.measure(word))]
    return " ".join(words)


def dough_rows(dough):
    """The row of a dough, and those of its rows behind it."""
    rows = [f"- {thing} {fraction_text(parts)}" for thing, parts in dough.rows()]
    return [f"dough {dough.name()} {dough.lead()}", *rows]


def book_rows(book):
    """The rows of a book's text."""
    rows = [stuff_row(book.stuff(name)) for name in book.stuffs()]
    for name in book.doughs():
        rows += dough_rows(book.dough(name))
    return rows


def book_text(book):
    """The text of a book."""
    return "".join([row + "\n" for row in book_rows(book)])


def grouped(rows):
    """The rows as lists of words, those that begin with a dash in one list with the row that they stand behind."""
    groups = []
    for row in rows:
        words = row.split(" ")
        if words[0] == "-" and len(groups) > 0:
            groups[-1].append(words)
        else:
            groups.append([words])
    return groups


def stuff_of_words(words):
    """The stuff that the words of a row tell."""
    measures = measures_of_words(words[2:])
    if len(words) < 2 or measures is None:
        raise NoText("a row of a stuff has a name and measures")
    name = words[1]
    return Stuff(name, **measures)


def dough_of_words(head, rows):
    """The dough that the words of a row and of those behind it tell."""
    if not all([len(words) == 3 for words in [head, *rows]]):
        raise NoText("a row of a dough has three words")
    parts = [(words[1], fraction_of_word(words[2])) for words in rows]
    return Dough(head[1], parts, whole_of_word(head[2]))


def book_of_rows(rows):
    """The book that rows tell; some that no text has are let."""
    stuffs = []
    doughs = []
    for head, *behind in grouped(rows):
        if head[0] == "stuff":
            stuffs.append(stuff_of_words(head))
        elif head[0] == "dough":
            doughs.append(dough_of_words(head, behind))
        else:
            raise NoText("a row is one of a stuff or of a dough")
    return Book(stuffs, doughs)


def read_book(text):
    """The book whose text this is."""
    if not isinstance(text, str):
        raise NoText("what is read is a text")
    try:
        book = book_of_rows(text.split("\n")[:-1])
    except LoafError:
        raise NoText("no book is told by these rows") from None
    if book_text(book) != text:
        raise NoText("no book has just this text")
    return book
