"""Desks: [25], and of [2], [3] and [4] what is told of them."""

import inspect
import unittest
from random import Random

from breads import book, number, some_book, some_fraction
from loafshares import errors
from loafshares.bench import Bench
from loafshares.booktexts import book_text
from loafshares.changing import changed, moves
from loafshares.costs import cost, parting
from loafshares.desk import Desk
from loafshares.errors import Late, LoafError, NoDough, NoName, NoOrder, NoPan, NoRow, NoStuff, Twice
from loafshares.fractions import fraction_text
from loafshares.opened import opened
from loafshares.pans import Pan, loaves
from loafshares.shares import feel, shares
from loafshares.sheets import sheet
from things import odd_things

BOOK = [
    "stuff wheat flour 1 thirst 3/5 price 2", "stuff rye flour 1 thirst 4/5 price 3", "stuff water water 1",
    "stuff salt salt 1 price 1/2", "stuff seed", "dough sour 12 rye 1 water 1",
    "dough loaf 2 wheat 4 sour 2 water 3 salt 1/10", "dough brine 0 water 9 salt 1",
]
PANS = ["pan tin 3/2 1/8", "pan rye 2 0"]
TEXT = (
    "stuff wheat flour 1 thirst 3/5 price 2; stuff rye flour 1 thirst 4/5 price 3; stuff water water 1; "
    "stuff salt salt 1 price 1/2; stuff seed; dough sour 12; - rye 1; - water 1; "
    "dough loaf 2; - wheat 4; - sour 2; - water 3; - salt 1/10; dough brine 0; - water 9; - salt 1"
)
# one row of each kind that the full desk answers
EACH = {
    "stuff oil water 1/9 price 7": "ok", "dough bun 5 wheat 3 water 2": "ok", "pan box 5 1/2": "ok",
    "opened sour": "rye 1/2; water 1/2", "shares loaf": "rye 1/5; salt 1/50; water 4/5; wheat 4/5",
    "sheet loaf 91": "sour 20; loaf 91", "cost loaf 91": "221/2", "feel sour": "5/4", "loaves 10 tin": "6 1",
    "change wheat rye water": "loaf wheat 4 0; loaf water 3 4; loaf rye 0 4", "parts loaf sour": "rye 10/91 1/2",
    "text": TEXT, "bring 6 rye 5": "ok", "order cod loaf tin 1 30": "ok", "drop abe": "ok",
    "tasks": "6 sour 2; 18 loaf 91/10", "lacking": "6 water 1; 18 salt 1/10; 18 water 3; 18 wheat 4",
    "most brine tin 5": None, "orders": "abe",
}


def desk(*rows):
    """A desk that was told the book, the pans, and these rows."""
    made = Desk()
    for row in [*BOOK, *PANS, *rows]:
        made.say(row)
    return made


def full():
    """An order, of which the rye is there."""
    return desk("pan batch 91/10 0", "order abe loaf batch 1 20", "bring 2 rye 7")


def state(one):
    """All that a desk tells, but for its pans."""
    return [one.say(word) for word in ["text", "orders", "tasks", "lacking"]]


class Desks(unittest.TestCase):
    def refused(self, one, kind, row, **attributes):
        """Refused so, and nothing is changed by it."""
        ahead = state(one)
        with self.assertRaises(LoafError) as caught:
            one.say(row)
        self.assertIs(type(caught.exception), kind, row)
        for name, worth in attributes.items():
            self.assertEqual(getattr(caught.exception, name), worth, row)
        self.assertEqual(state(one), ahead)

    def answers(self, one, answers):
        for row, answer in answers.items():
            self.assertEqual(one.say(row), answer, row)


class TestAnswers(Desks):
    def test_interface(self):
        self.assertEqual(Desk.__module__, "loafshares.desk")
        self.assertEqual(list(inspect.signature(Desk).parameters), [])
        self.assertEqual(list(inspect.signature(vars(Desk)["say"]).parameters)[1:], ["row"])
        self.assertEqual(Desk().say(row="text"), "")

    def test_of_none(self):
        self.answers(Desk(), {"text": "", "tasks": "", "lacking": "", "orders": ""})
        self.answers(desk(), {"tasks": "", "lacking": "", "orders": ""})
        self.answers(desk(), {"change seed rye water": ""})

    def test_each_kind(self):
        for row, answer in EACH.items():
            if answer is not None:
                self.answers(full(), {row: answer})

    def test_ok_of_deeds(self):
        one = Desk()
        for row in [*BOOK, *PANS, "order abe loaf tin 1 20", "bring 0 rye 1/2", "drop abe"]:
            self.assertEqual(one.say(row), "ok")
        self.answers(one, {"text": TEXT})

    def test_stuffs(self):
        one = Desk()
        self.answers(one, {
            "stuff a": "ok", "stuff b flour 1/2 water 1/3 salt 1/6 thirst 4 price 5": "ok", "stuff c flour 0 price 0": "ok",
            "stuff flour water 1": "ok", "stuff stuff": "ok", "stuff abcdefghij salt 1 price 999999999998/7": "ok",
            "text": "stuff a; stuff b flour 1/2 water 1/3 salt 1/6 thirst 4 price 5; stuff c; stuff flour water 1; stuff stuff; "
                    "stuff abcdefghij salt 1 price 999999999998/7",
        })

    def test_in_the_place_of_an_elder_one(self):
        one = desk("stuff rye flour 1/2 thirst 1", "dough sour 99 rye 3/2")
        wanted = TEXT.replace("stuff rye flour 1 thirst 4/5 price 3", "stuff rye flour 1/2 thirst 1")
        self.answers(one, {"text": wanted.replace("dough sour 12; - rye 1; - water 1", "dough sour 99; - rye 3/2")})

    def test_doughs_of_eight_rows(self):
        one = Desk()
        for name in "abcdefgh":
            one.say(f"stuff {name}")
        self.answers(one, {"dough x 0 h 1 g 1 f 1 e 1 d 1 c 1 b 1 a 1": "ok", "dough y 99 x 1/999999999": "ok"})
        self.assertEqual(one.say("opened y"), "; ".join(f"{name} 1/8" for name in "abcdefgh"))

    def test_opened_and_shares(self):
        self.answers(desk(), {
            "opened sour": "rye 1/2; water 1/2", "opened loaf": "rye 10/91; salt 1/91; water 40/91; wheat 40/91",
            "shares sour": "rye 1; water 1", "shares loaf": "rye 1/5; salt 1/50; water 4/5; wheat 4/5",
            "opened brine": "salt 1/10; water 9/10",
        })

    def test_sheets_costs_and_feels(self):
        self.answers(desk("dough aft 0 loaf 1 sour 1"), {
            "sheet loaf 91/2": "sour 10; loaf 91/2", "sheet brine 1/3": "brine 1/3", "sheet aft 182": "sour 111; loaf 91; aft 182",
            "cost sour 1": "3/2", "cost brine 4/5": "1/25", "cost sour 2/3": "1", "feel loaf": "5/4",
        })

    def test_loaves_and_pans(self):
        one = desk()
        self.answers(one, {"loaves 1 tin": "0 1", "loaves 3 tin": "2 0", "loaves 10/3 tin": "2 1/3", "loaves 7 rye": "3 1"})
        self.answers(one, {"pan tin 2 0": "ok", "loaves 3 tin": "1 1"})
        self.answers(one, {"pan tin 1 999/1000": "ok", "loaves 3 tin": "3 0"})

    def test_changes(self):
        one = desk()
        self.answers(one, {
            "change rye wheat water": "sour rye 1 0; sour water 1 3/4; sour wheat 0 1",
            "text": TEXT.replace("- rye 1; - water 1;", "- wheat 1; - water 3/4;"), "shares sour": "water 3/4; wheat 1",
        })

    def test_parts(self):
        one = desk("dough twin 3 sour 5 rye 2 water 2")
        self.answers(one, {"parts sour twin": "same", "parts sour sour": "same", "parts brine sour": "rye 0 1/2",
                           "parts sour brine": "rye 1/2 0", "parts loaf sour": "rye 10/91 1/2"})

    def test_the_bench(self):
        one = desk("order bob sour tin 4 20", "order abe loaf rye 1 20", "order cod brine tin 2 5")
        self.answers(one, {
            "orders": "abe bob cod", "tasks": "5 brine 3; 6 sour 40/91; 8 sour 6; 18 loaf 2",
            "lacking": "5 salt 3/10; 5 water 27/10; 6 rye 20/91; 6 water 20/91; 8 rye 3; 8 water 3; "
                       "18 salt 2/91; 18 water 60/91; 18 wheat 80/91",
        })
        for row in ["bring 0 water 4", "bring 0 water 2", "bring 18 wheat 1", "bring 19 salt 1"]:
            one.say(row)
        self.answers(one, {"lacking": "5 salt 3/10; 6 rye 20/91; 8 rye 3; 18 salt 2/91; 18 water 527/910"})
        self.answers(one, {"drop abe": "ok", "drop bob": "ok", "tasks": "5 brine 3", "lacking": "5 salt 3/10", "orders": "cod"})

    def test_most(self):
        one = desk("bring 3 rye 100", "bring 8 water 7/2", "bring 10 water 100")
        self.answers(one, {"most sour tin 20": "4 8 water", "most sour tin 19": "0 7 water", "most sour tin 15": "0 3 water",
                           "most sour tin 30": "133 18 rye", "most loaf tin 19": "0 5 water"})
        one.say("pan tin 1/1000 0")
        self.answers(one, {"most sour tin 20": "7000 8 water"})

    def test_orders_keep_the_pan_that_they_were_made_with(self):
        one = desk("order abe brine tin 2 5", "pan tin 10 0", "order bob brine tin 2 6")
        self.answers(one, {"tasks": "5 brine 3; 6 brine 20", "orders": "abe bob"})

    def test_what_empties_the_bench(self):
        for row in ["stuff oil", "stuff rye flour 1", "dough bun 0 rye 1", "dough sour 1 rye 1", "change rye wheat water",
                    "change seed rye water"]:
            one = desk("order abe brine tin 2 5", "bring 0 salt 100", "bring 0 water 100", "pan keg 50 0")
            self.answers(one, {"orders": "abe", "tasks": "5 brine 3", "lacking": ""})
            one.say(row)
            self.answers(one, {"orders": "", "tasks": "", "lacking": "", "loaves 3 tin": "2 0", "loaves 101 keg": "2 1"})
            # what was brought is gone, too
            one.say("order abe brine tin 2 5")
            self.answers(one, {"orders": "abe", "lacking": "5 salt 3/10; 5 water 27/10"})

    def test_what_does_not(self):
        for row in EACH:
            if row.split(" ")[0] not in ["stuff", "dough", "change", "drop", "most"]:
                one = full()
                one.say(row)
                self.assertIn("abe", one.say("orders").split(" "))

    def test_a_refused_stuff_dough_or_change_does_not(self):
        one = full()
        for row in ["stuff sour", "stuff rye flour 2", "dough rye 0 water 1", "dough sour 0 loaf 1", "dough sour 0 oil 1",
                    "change rye rye water", "change rye wheat salt", "change rye oil water"]:
            ahead = state(one)
            with self.assertRaises(LoafError):
                one.say(row)
            self.assertEqual(state(one), ahead)

    def test_asked_again(self):
        one = full()
        for row in EACH:
            if row.split(" ")[0] in ["opened", "shares", "sheet", "cost", "feel", "loaves", "parts", "text", "tasks", "lacking", "orders"]:
                self.assertEqual([one.say(row) for _ in range(3)], [EACH[row]] * 3)

    def test_of_two_desks_neither_knows_of_the_other(self):
        one, other = desk("order abe loaf tin 1 20"), Desk()
        self.assertEqual(state(other), [""] * 4)
        self.refused(other, NoName, "loaves 1 tin", who="tin")
        other.say("pan tin 1 0")
        other.say("stuff oil")
        self.answers(one, {"text": TEXT, "orders": "abe", "loaves 3 tin": "2 0"})

    def test_by_chance(self):
        for seed in range(40):
            random, made = Random(seed), some_book(seed, 6, 6)
            one = desk_of(made)
            self.assertEqual(one.say("text"), "; ".join(book_text(made).split("\n")[:-1]))
            pan, name = Pan("tin", some_fraction(random)), random.choice(made.doughs())
            one.say(f"pan tin {fraction_text(pan.holds())} 0")
            self.check_doughs(one, made, name, some_fraction(random), pan)
            self.check_bench(one, made, name, pan)

    def check_doughs(self, one, made, name, weight, pan):
        text, other = fraction_text(weight), made.doughs()[0]
        self.same(one, f"opened {name}", lambda: pairs_text(opened(made, name)))
        self.same(one, f"shares {name}", lambda: pairs_text(shares(made, name)))
        self.same(one, f"sheet {name} {text}", lambda: "; ".join(f"{page[0]} {number(page[1])}" for page in sheet(made, name, weight)))
        self.same(one, f"cost {name} {text}", lambda: f"{number(cost(made, name, weight))}")
        self.same(one, f"feel {name}", lambda: f"{number(feel(made, name))}")
        self.same(one, f"loaves {text} tin", lambda: "{} {}".format(loaves(weight, pan)[0], number(loaves(weight, pan)[1])))
        self.same(one, f"parts {name} {other}", lambda: parting_text(parting(made, name, made, other)))
        stuffs = made.stuffs()
        if len(stuffs) > 2:
            other = desk_of(made)
            self.same(other, "change {} {} {}".format(*stuffs[:3]), lambda: moves_text(moves(made, changed(made, *stuffs[:3]))))

    def check_bench(self, one, made, name, pan):
        bench = Bench(made)
        for at, stuff in enumerate(made.stuffs()):
            self.same(one, f"bring {at} {stuff} 1000000/3", lambda: bench.bring(at, stuff, (1000000, 3)) or "ok")
        self.same(one, f"order abe {name} tin 7 3000", lambda: bench.order("abe", name, pan, 7, 3000) or "ok")
        self.same(one, "tasks", lambda: rows_text(bench.tasks()))
        self.same(one, f"most {name} tin 2000", lambda: "{} {} {}".format(*bench.most(name, pan, 2000)))
        self.same(one, f"order bob {name} tin 999 4000", lambda: bench.order("bob", name, pan, 999, 4000) or "ok")
        self.same(one, "lacking", lambda: rows_text(bench.lacking()))
        self.same(one, "orders", lambda: "abe bob")
        self.same(one, f"most {name} tin 2000", lambda: "{} {} {}".format(*bench.most(name, pan, 2000)))

    def same(self, one, row, call):
        """The desk answers, or refuses, as a call does."""
        try:
            wanted = call()
        except LoafError as refusal:
            with self.assertRaises(type(refusal)) as caught:
                one.say(row)
            self.assertEqual(vars(caught.exception), vars(refusal))
        else:
            self.assertEqual(one.say(row), wanted, row)


def desk_of(made):
    """A desk that was told a book: first each dough with a row of a stuff, so that they stand in the book's order."""
    one = Desk()
    rows = book_text(made).split("\n")[:-1]
    for row in [row for row in rows if row.startswith("stuff")]:
        one.say(row)
    first = made.stuffs()[0]
    for name in made.doughs():
        one.say(f"dough {name} 0 {first} 1")
    for name in made.making(made.doughs()):
        dough = made.dough(name)
        words = [f"{thing} {fraction_text(parts)}" for thing, parts in dough.rows()]
        one.say(" ".join([f"dough {name} {dough.lead()}", *words]))
    return one


def pairs_text(told):
    return "; ".join(f"{name} {number(told[name])}" for name in sorted(told))


def rows_text(rows):
    return "; ".join(f"{hour} {name} {number(weight)}" for hour, name, weight in rows)


def moves_text(told):
    return "; ".join(f"{dough} {thing} {number(ahead)} {number(behind)}" for dough, thing, ahead, behind in told)


def parting_text(told):
    return "same" if told is None else f"{told[0]} {number(told[1])} {number(told[2])}"


class TestNoRow(Desks):
    def test_of_anything(self):
        one = full()
        for thing in [*odd_things(), None, b"text", ["text"], ("text",), {"text"}, ["drop", "abe"], book()]:
            self.refused(one, NoRow, thing)

    def test_blanks(self):
        one = full()
        for row in EACH:
            for wrong in [" " + row, row + " ", row + "\n", "\n" + row, row + "\t", row.replace(" ", "  "), row.replace(" ", "\t"),
                          row.replace(" ", "\n"), row.replace(" ", ", ")]:
                if wrong != row:
                    self.refused(one, NoRow, wrong)
            at = row.find(" ")
            if at > 0:
                self.refused(one, NoRow, row[:at] + row[at + 1:])
        for row in ["", " ", "  ", "\n", ";", "text;", "text; text", "text text"]:
            self.refused(one, NoRow, row)

    def test_words_too_many_or_too_few(self):
        one = full()
        for row in EACH:
            words = row.split(" ")
            for at in range(len(words)):
                self.refused(one, NoRow, " ".join(words[:at] + words[at + 1:]))
            for more in ["1", "rye", "tin", "sour", "0", "x", "-", "1/2"]:
                self.refused(one, NoRow, f"{row} {more}")
            self.refused(one, NoRow, row.upper())
            self.refused(one, NoRow, row.capitalize())

    def test_first_words_that_there_are_not(self):
        one = full()
        for row in ["book", "pans", "used", "making loaf", "tree loaf", "- rye 1", "say text", "name", "weight 1", "moves", "row_shares loaf"]:
            self.refused(one, NoRow, row)

    def test_measures(self):
        one = full()
        for row in ["stuff oil flour", "stuff oil flour water 1", "stuff oil 1", "stuff oil water 1 flour 1", "stuff oil price 1 salt 1",
                    "stuff oil flour 1 flour 1", "stuff oil flour 1/2 water 1/2 flour 1/2", "stuff oil oil 1", "stuff oil name 1",
                    "stuff oil Flour 1", "stuff oil flour one", "stuff oil flour 1 water", "stuff oil flour 1 2"]:
            self.refused(one, NoRow, row)

    def test_fractions(self):
        one = full()
        for word in ["2/4", "4/2", "1/1", "3/1", "0/1", "1/0", "01", "00", "1/02", "-0", "+1", "--1", "1.0", "1e1", "1_0", "/2", "1/", "1/-2",
                     "1/2/3", "(1,", "rye", "-", "\u0661"]:
            for row in ["stuff oil water {}", "dough bun 0 rye {}", "dough bun 0 rye 1 water {}", "pan box {} 0", "pan box 1 {}",
                        "sheet loaf {}", "cost loaf {}", "loaves {} tin", "bring 0 rye {}"]:
                self.refused(one, NoRow, row.format(word))

    def test_figures(self):
        one = full()
        for word in ["00", "01", "007", "-1", "-0", "+1", "1/2", "1.0", "1e1", "1_0", "rye", "-", "\u0661"]:
            for row in ["dough bun {} rye 1", "bring {} rye 1", "order cod loaf tin {} 30", "order cod loaf tin 1 {}", "most loaf tin {}"]:
                self.refused(one, NoRow, row.format(word))

    def test_names(self):
        one = full()
        for word in ["Rye", "rye1", "abcdefghijk", "1", "1/2", "-", "r-e", "rye,", "\u00e4"]:
            for row in ["stuff {}", "stuff {} flour 1", "dough {} 0 rye 1", "dough bun 0 {} 1", "dough bun 0 rye 1 {} 1", "pan {} 1 0",
                        "opened {}", "shares {}", "sheet {} 1", "cost {} 1", "feel {}", "loaves 1 {}", "change {} wheat water",
                        "change rye {} water", "change rye wheat {}", "parts {} sour", "parts sour {}", "bring 0 {} 1",
                        "order {} loaf tin 1 30", "order cod {} tin 1 30", "order cod loaf {} 1 30", "drop {}", "most {} tin 30",
                        "most loaf {} 30"]:
                self.refused(one, NoRow, row.format(word))

    def test_ahead_of_no_name(self):
        one = full()
        for row in ["opened oil 1", "sheet oil 01", "sheet oil", "change oil Rye water", "parts oil SOUR", "bring 01 oil 1", "bring 0 oil 2/4",
                    "order cod oil box 1 030", "order Cod oil box 1 30", "most oil box -1", "loaves 2/4 box", "drop bob bob", "cost oil x"]:
            self.refused(one, NoRow, row)


class TestNoName(Desks):
    def test_the_first_from_the_left(self):
        one = full()
        rows = {
            "opened oil": "oil", "opened rye": "rye", "shares wheat": "wheat", "sheet oil 1": "oil", "sheet abe 1": "abe", "cost tin 1": "tin",
            "feel rye": "rye", "loaves 1 box": "box", "loaves 1 sour": "sour", "change oil ale gin": "oil", "change rye ale gin": "ale",
            "change rye wheat gin": "gin", "change sour wheat water": "sour", "change rye loaf gin": "loaf", "change rye rye brine": "brine",
            "parts oil ale": "oil", "parts sour ale": "ale", "parts rye sour": "rye", "parts sour rye": "rye", "bring 0 oil 1": "oil",
            "bring 0 sour 1": "sour", "order cod oil box 1 30": "oil", "order cod loaf box 1 30": "box", "order cod rye tin 1 30": "rye",
            "order cod loaf sour 1 30": "sour", "drop cod": "cod", "drop loaf": "loaf", "drop tin": "tin", "most oil box 30": "oil",
            "most loaf box 30": "box", "most rye tin 30": "rye", "opened text": "text",
        }
        for row, who in rows.items():
            self.refused(one, NoName, row, who=who)

    def test_ahead_of_what_functions_and_classes_refuse(self):
        one = full()
        rows = {
            "sheet oil 0": "oil", "cost oil -1": "oil", "loaves 0 box": "box", "change oil oil oil": "oil", "bring 10000 oil 0": "oil",
            "order abe oil tin 0 10000": "oil", "order abe loaf box 1000 0": "box", "most loaf box 10000": "box", "most oil tin 0": "oil",
            "bring 99999 loaf -1": "loaf", "change rye rye oil": "oil",
        }
        for row, who in rows.items():
            self.refused(one, NoName, row, who=who)

    def test_where_none_has_to_be(self):
        one = full()
        self.refused(one, errors.Unknown, "dough bun 0 oil 1", where="bun", who="oil")
        self.refused(one, errors.Unknown, "dough bun 0 rye 1 oil 1", where="bun", who="oil")
        self.assertEqual(one.say("order oil loaf tin 1 30"), "ok")
        self.assertEqual(one.say("pan sour 1 0"), "ok")

    def test_of_a_new_desk(self):
        one = Desk()
        for row in ["opened loaf", "sheet loaf 0", "most loaf tin 0", "order abe loaf tin 1 0", "parts loaf loaf", "feel loaf"]:
            self.refused(one, NoName, row, who="loaf")
        self.refused(one, NoName, "change rye wheat water", who="rye")
        self.refused(one, NoName, "bring 0 rye 1", who="rye")
        self.refused(one, NoName, "drop abe", who="abe")
        self.refused(one, NoName, "loaves 1 tin", who="tin")


class TestRefusedBelow(Desks):
    def test_stuffs(self):
        one = full()
        for row, field in {"stuff oil flour -1": "flour", "stuff oil water -1/2": "water", "stuff oil salt -1": "salt",
                           "stuff oil flour 1/2 water 1/2 salt 1/9": "salt", "stuff oil thirst -1": "thirst",
                           "stuff oil price -1/9": "price", "stuff sour flour 1 water -1": "water"}.items():
            self.refused(one, NoStuff, row, field=field)
        self.refused(one, Twice, "stuff sour", who="sour")

    def test_doughs(self):
        one = full()
        for row, field in {"dough bun 0": "rows", "dough bun 100": "rows", "dough bun 0 rye 0": "rows", "dough bun 0 rye -1": "rows",
                           "dough bun 0 rye 1 rye 2": "rows", "dough bun 100 rye 1": "lead", "dough rye 999999 oil 1": "lead",
                           "dough bun 0 a 1 b 1 c 1 d 1 e 1 f 1 g 1 h 1 i 1": "rows"}.items():
            self.refused(one, NoDough, row, field=field)
        self.refused(one, Twice, "dough rye 0 water 1", who="rye")
        self.refused(one, Twice, "dough rye 0 oil 1", who="rye")
        self.refused(one, errors.Unknown, "dough sour 0 water 1 oil 1 ale 1", where="sour", who="oil")
        self.refused(one, errors.Ring, "dough bun 0 bun 1", names=("bun",))
        with self.assertRaises(errors.Ring) as caught:
            one.say("dough sour 0 loaf 1")
        self.assertEqual(sorted(caught.exception.names), ["loaf", "sour"])

    def test_pans(self):
        one = full()
        for row, field in {"pan tin 0 0": "holds", "pan tin -1 1": "holds", "pan tin 1 1": "loss", "pan tin 1 -1/2": "loss",
                           "pan tin 1 3/2": "loss"}.items():
            self.refused(one, NoPan, row, field=field)
        self.assertEqual(one.say("loaves 3 tin"), "2 0")
        self.refused(one, NoPan, "pan box 1 1", field="loss")
        self.refused(one, NoName, "loaves 3 box", who="box")

    def test_weights(self):
        one = full()
        for row in ["sheet loaf 0", "sheet loaf -1", "cost sour 0", "loaves 0 tin", "loaves -3/2 tin", "bring 0 rye 0", "bring 9999 rye -1"]:
            self.refused(one, errors.NoWeight, row)

    def test_shares_and_feels(self):
        one = desk("dough soak 0 seed 1 brine 1", "dough meal 0 rye 1")
        self.refused(one, errors.NoFlour, "shares brine", who="brine")
        self.refused(one, errors.NoFeel, "feel soak", who="soak")
        self.assertEqual(one.say("feel meal"), "0")

    def test_changes(self):
        one = full()
        for row in ["change rye rye water", "change water rye water", "change rye water water", "change rye wheat salt", "change wheat rye seed"]:
            self.refused(one, errors.NoBy, row)
        self.refused(one, errors.NoFeel, "change rye seed water", who="sour")
        one = desk("stuff milk water 1", "dough wet 0 rye 1 milk 10 water 1")
        self.refused(one, errors.Dry, "change rye wheat water", who="wet")

    def test_orders(self):
        one = full()
        for row, field in {"order abe loaf tin 1 30": "name", "order abe loaf tin 0 10000": "name", "order cod loaf tin 0 30": "count",
                           "order cod loaf tin 1000 0": "count", "order cod loaf tin 1000 99999": "count"}.items():
            self.refused(one, NoOrder, row, field=field)
        self.refused(one, errors.NoHour, "order cod loaf tin 1 10000")
        self.refused(one, errors.NoHour, "bring 10000 rye 0")
        self.refused(one, Late, "order cod loaf tin 1 0", by=14)
        self.refused(one, Late, "order cod sour tin 999 11", by=1)
        self.refused(one, errors.NoHour, "most loaf tin 10000")
        self.refused(one, Late, "most loaf tin 3", by=11)
        self.refused(one, errors.Lacking, "most loaf tin 14")


if __name__ == "__main__":
    unittest.main()
