"""Texts of books: [20], and of [2], [3] and [4] what is told of them."""

import inspect
import unittest
from fractions import Fraction
from random import Random

from breads import book, other_book, pair, some_books
from loafshares.books import Book
from loafshares.booktexts import book_text, read_book
from loafshares.changing import changed
from loafshares.doughs import Dough
from loafshares.errors import NoText
from loafshares.stuffs import Stuff
from things import odd_things

RYE = Stuff("rye", flour=(1, 1), thirst=(4, 5))
HEAD = "stuff rye flour 1 thirst 4/5\n"
SOUR = HEAD + "stuff water water 1\ndough sour 12\n- rye 1\n- water 3/2\n"
TEXT = """stuff wheat flour 1 thirst 3/5 price 2
stuff rye flour 1 thirst 4/5 price 3
stuff water water 1
stuff salt salt 1 price 1/2
stuff milk water 9/10 price 5/4
stuff seed thirst 1/4
dough loaf 2
- wheat 6
- sponge 3
- water 2
- salt 1/5
- sour 1/2
dough sour 12
- rye 1
- water 1
dough sponge 5
- wheat 2
- sour 1/2
- water 3/2
dough roll 0
- milk 1/3
- wheat 2/3
dough brine 0
- water 9
- salt 1
dough soak 1
- seed 1
- brine 2
"""


class Texts(unittest.TestCase):
    def no_text(self, thing):
        with self.assertRaises(NoText):
            read_book(thing)
        with self.assertRaises(NoText):
            read_book(text=thing)

    def there_and_back(self, one, text):
        self.assertEqual(book_text(one), text)
        self.assertEqual(book_text(book=one), text)
        again = read_book(text)
        self.assertIs(type(again), Book)
        self.assertTrue(again == one)
        self.assertEqual(book_text(again), text)


class TestThereAndBack(Texts):
    def test_interface(self):
        self.assertEqual(list(inspect.signature(book_text).parameters), ["book"])
        self.assertEqual(list(inspect.signature(read_book).parameters), ["text"])
        self.assertEqual((book_text.__module__, read_book.__module__), ("loafshares.booktexts",) * 2)

    def test_of_nothing(self):
        self.there_and_back(Book([], []), "")

    def test_stuffs_with_no_measure_some_and_all(self):
        self.there_and_back(Book([Stuff("rye")], []), "stuff rye\n")
        self.there_and_back(Book([RYE], []), HEAD)
        self.there_and_back(
            Book([Stuff("abcdefghij", (1, 2), (1, 3), (1, 6), (999999999999, 1), (999999999998, 999999999999))], []),
            "stuff abcdefghij flour 1/2 water 1/3 salt 1/6 thirst 999999999999 price 999999999998/999999999999\n",
        )
        for word in ["flour", "water", "salt", "thirst", "price"]:
            self.there_and_back(Book([Stuff("rye", **{word: (2, 7)})], []), f"stuff rye {word} 2/7\n")

    def test_stuffs_in_order(self):
        self.there_and_back(Book([Stuff("b"), Stuff("a"), Stuff("c", price=(1, 1))], []), "stuff b\nstuff a\nstuff c price 1\n")

    def test_stuffs_and_doughs_with_names_of_words(self):
        one = Book([Stuff("stuff", water=(1, 1)), Stuff("flour", flour=(1, 1))], [Dough("dough", [("flour", (1, 1))], 1)])
        self.there_and_back(one, "stuff stuff water 1\nstuff flour flour 1\ndough dough 1\n- flour 1\n")

    def test_doughs(self):
        water = Stuff("water", water=(1, 1))
        one = Book([RYE, water], [Dough("sour", [("rye", (1, 1)), ("water", (3, 2))], 12)])
        self.there_and_back(one, SOUR)
        for lead in [0, 1, 9, 10, 99]:
            one = Book([RYE], [Dough("sour", [("rye", (7, 1))], lead)])
            self.there_and_back(one, HEAD + f"dough sour {lead}\n- rye 7\n")

    def test_outer_ones_ahead_of_inner_ones(self):
        self.there_and_back(book(), TEXT)

    def test_parts_of_nine_figures_and_eight_rows(self):
        rows = [(letter, (999999999 - at, 999999998 - at)) for at, letter in enumerate("abcdefgh")]
        one = Book([Stuff(letter) for letter in "abcdefghijkl"], [Dough("x", rows)])
        wanted = "".join(f"stuff {letter}\n" for letter in "abcdefghijkl") + "dough x 0\n"
        self.there_and_back(one, wanted + "".join(f"- {thing} {top}/{bottom}\n" for thing, (top, bottom) in rows))

    def test_by_chance(self):
        for one in [book(), other_book(), *some_books()]:
            self.there_and_back(one, book_text(one))

    def test_a_text_that_was_told_may_be_longer(self):
        letters = "acdefg"
        rows = [(letter, pair(Fraction(999999999 - at, 999999998 - 7 * at))) for at, letter in enumerate(letters)]
        made = [Dough("da", [*rows, ("w", (999999999, 1))])]
        for inner, outer in zip("abcdefghi", "bcdefghij"):
            made.append(Dough("d" + outer, [("d" + inner, (999999991, 999999998)), *rows, ("w", (999999999, 1))]))
        thirsts = [pair(Fraction(999999999999, 999999999998 - at)) for at in range(len(letters))]
        stuffs = [Stuff(letter, thirst=thirst) for letter, thirst in zip(letters, thirsts)]
        told = changed(Book([*stuffs, Stuff("b", thirst=(7, 9)), Stuff("w", water=(1, 3))], made), "a", "b", "w")
        self.assertGreater(len(book_text(told)), 4000)
        self.there_and_back(told, book_text(told))

    def test_asked_again(self):
        one, text = book(), TEXT
        self.assertEqual([book_text(one) for _ in range(3)], [TEXT] * 3)
        first, second = read_book(text), read_book(text)
        self.assertEqual((first, second), (book(), book()))
        first.doughs().clear()
        self.assertEqual((first, read_book(text), one), (book(), book(), book()))


class TestNoText(Texts):
    def test_no_text(self):
        for thing in odd_things():
            if thing.__class__ is not str or thing:
                self.no_text(thing)
        for thing in [None, b"", SOUR.encode(), [SOUR], SOUR.split("\n"), (SOUR,), book(), 0, {SOUR: SOUR}]:
            self.no_text(thing)

    def test_blanks_and_line_feeds(self):
        wrong = [
            " ", "\n", "\n\n", "stuff rye", "stuff rye\n\n", "\nstuff rye\n", "stuff rye \n", " stuff rye\n",
            "stuff  rye\n", "stuffrye\n", "stuff\nrye\n", "stuff rye\r\n", "stuff\trye\n", "stuff rye\n ", "stuff rye\n \n",
            HEAD + "\n" + SOUR[len(HEAD):], SOUR[:-1], SOUR + "\n", SOUR + " ", SOUR.replace("\n", "\r\n"),
            SOUR.replace("- rye 1\n", "-  rye 1\n"), SOUR.replace("- rye 1\n", "-rye 1\n"), SOUR.replace("- rye", " - rye"),
            SOUR.replace("- rye 1\n", "- rye 1 \n"), SOUR.replace("12\n", "12 \n"), SOUR.replace("12\n", "12 - rye 1\n"),
            SOUR.replace("\n- rye 1\n", " rye 1\n"), SOUR.replace("- rye 1\n", "- rye 1\n\n"), SOUR.replace("\n", "; "),
        ]
        for text in wrong:
            self.no_text(text)

    def test_each_sign_left_out_or_doubled_or_a_blank_too_many(self):
        for at in range(len(SOUR)):
            for text in [SOUR[:at] + SOUR[at + 1:], SOUR[:at] + SOUR[at] + SOUR[at:], SOUR[:at] + " " + SOUR[at:],
                         SOUR[:at] + "\n" + SOUR[at:]]:
                self.just_what_is_written(text)

    def just_what_is_written(self, text):
        """Whether it's read or refused: what is read has just this text."""
        try:
            told = read_book(text)
        except NoText:
            return False
        self.assertEqual(book_text(told), text)
        return True

    def test_by_chance(self):
        random = Random(41)
        texts = [TEXT, SOUR, *[book_text(one) for one in some_books()[:10]]]
        signs = " \n-/0123456789abcdefw"
        refused = 0
        for _ in range(4000):
            text = random.choice(texts)
            for _ in range(random.randint(1, 2)):
                at, far = random.randrange(len(text)), random.randint(0, 2)
                text = text[:at] + random.choice(signs) * random.randint(0, 1) + text[at + far:]
            refused += not self.just_what_is_written(text)
        self.assertGreater(refused, 2000)

    def test_rows_in_another_order_by_chance(self):
        random = Random(42)
        for _ in range(600):
            rows = TEXT.splitlines(keepends=True)
            at, to = random.randrange(len(rows)), random.randrange(len(rows))
            rows.insert(to, rows.pop(at))
            self.just_what_is_written("".join(rows))

    def test_words(self):
        wrong = [
            "stuff\n", "dough\n", "-\n", "rye\n", "Stuff rye\n", "stuff Rye\n", "stuff abcdefghijk\n", "stuff r2\n",
            "stuff rye flour\n", "stuff rye 1\n", "stuff rye flour 1 water\n", "stuff rye weight 1\n", "stuff rye name 1\n",
            "stuff rye flour one\n", "stuff rye wheat\n", "pan tin 1 0\n", "dough sour 12\n", "dough sour\n", HEAD + "- rye 1\n",
            HEAD + "dough sour - rye 1\n", HEAD + "dough sour 1 2\n- rye 1\n", HEAD + "dough sour\n- rye 1\n",
            HEAD + "dough sour 1\n- rye\n", HEAD + "dough sour 1\n- rye 1 2\n", HEAD + "dough sour 1\n- rye 1 water 2\n",
            HEAD + "dough sour 1\nrye 1\n", HEAD + "dough sour 1\n+ rye 1\n", HEAD + "dough sour 1\n-- rye 1\n",
            HEAD + "dough Sour 1\n- rye 1\n", HEAD + "dough sour 1\n- Rye 1\n", HEAD + "dough  1\n- rye 1\n",
        ]
        for text in wrong:
            self.no_text(text)

    def test_a_measure_0_written_out(self):
        for word in ["flour", "water", "salt", "thirst", "price"]:
            self.no_text(f"stuff rye {word} 0\n")
        self.no_text("stuff rye flour 1 water 0 salt 0 thirst 4/5\n")

    def test_measures_out_of_order_or_twice(self):
        for text in [
            "stuff rye water 1/2 flour 1/2\n", "stuff rye thirst 4/5 flour 1\n", "stuff rye price 1 thirst 1\n",
            "stuff rye flour 1/2 flour 1/2\n", "stuff rye flour 1/2 flour 1/3\n", "stuff rye flour 1 thirst 1 flour 1\n",
        ]:
            self.no_text(text)

    def test_fractions_that_are_none(self):
        for word in [
            "2/4", "4/2", "1/1", "3/1", "0/1", "0/2", "1/0", "0/0", "01", "00", "1/02", "01/2", "-1", "-1/2", "1/-2", "+1", "--1",
            "-0", "1.0", "1e1", "1_0", "/2", "1/", "/", "1/2/3", "(1, 2)", "", "a", "1/a", "1 /2", "0", "-", "1//2", "\u0661",
        ]:
            self.no_text(f"stuff rye price {word}\n")
            self.no_text(HEAD + f"dough sour 1\n- rye {word}\n")

    def test_leads_that_are_none(self):
        for word in ["100", "00", "01", "-1", "1/2", "1/1", "a", "", "+1", "1.0", "999999999999", "1_0", "-0", "\u0661"]:
            self.no_text(HEAD + f"dough sour {word}\n- rye 1\n")

    def test_a_dough_without_rows(self):
        self.no_text("dough sour 0\n")
        self.no_text(HEAD + "dough sour 0\n")
        self.no_text(HEAD + "dough sour 0\ndough sponge 0\n- rye 1\n")
        self.no_text(SOUR + "dough sponge 3\n")

    def test_more_than_eight_rows(self):
        stuffs = "".join(f"stuff {letter}\n" for letter in "abcdefghi")
        rows = [f"- {letter} 1\n" for letter in "abcdefghi"]
        self.assertEqual(len(read_book(stuffs + "dough x 0\n" + "".join(rows[:8])).dough("x")), 8)
        self.no_text(stuffs + "dough x 0\n" + "".join(rows))

    def test_a_row_ahead_of_all_doughs_and_a_stuff_behind_a_dough(self):
        self.no_text("- rye 1\n" + SOUR)
        self.no_text(HEAD + "- rye 1\ndough sour 12\n- rye 1\n")
        self.no_text(HEAD + "dough sour 12\n- rye 1\nstuff water water 1\n")
        self.no_text("dough sour 12\n- rye 1\n" + HEAD)
        self.no_text(HEAD + "dough sour 12\n- rye 1\nstuff water\n- rye 2\n")
        self.no_text(HEAD + "dough sour 12\nstuff water\n- rye 2\n")

    def test_what_no_book_has(self):
        for text in [
            HEAD + HEAD, SOUR + "dough sour 1\n- rye 1\n", SOUR + "dough rye 1\n- water 1\n",
            HEAD + "dough sour 12\n- rye 1\n- rye 2\n", HEAD + "dough sour 12\n- oil 1\n", HEAD + "dough sour 12\n- sour 1\n",
            HEAD + "dough a 0\n- b 1\n- rye 1\ndough b 0\n- a 1\n", "stuff rye flour 1/2 water 1/2 salt 1/9\n",
            "stuff rye flour 10/9\n", "stuff rye flour 1 water 1\n", HEAD + "dough sour 12\n- rye 0\n",
        ]:
            self.no_text(text)

    def test_numbers_that_python_cannot_read(self):
        self.no_text(f"stuff rye price {'9' * 5000}\n")
        self.no_text(f"stuff rye price 1/{'9' * 5000}\n")
        self.no_text(HEAD + f"dough sour {'9' * 5000}\n- rye 1\n")

    def test_numbers_of_many_figures(self):
        text = f"stuff rye price {'9' * 3980}\n"
        self.assertEqual(book_text(read_book(text)), text)

    def test_a_refusal_changes_nothing(self):
        thing = [SOUR, [SOUR]]
        self.no_text(thing)
        self.assertEqual(thing, [SOUR, [SOUR]])
        self.no_text(SOUR + "-")
        self.assertEqual(book_text(read_book(SOUR)), SOUR)


if __name__ == "__main__":
    unittest.main()
