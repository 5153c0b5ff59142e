"""Rows that a desk is told, as they are read."""

import unittest

from loafshares.desk import ANSWERS
from loafshares.deskrows import FORMS, read_row
from loafshares.errors import NoRow


class TestRead(unittest.TestCase):
    def test_each_form_has_its_answer(self):
        self.assertEqual(list(FORMS), list(ANSWERS))

    def test_what_is_told(self):
        wanted = {
            "text": ("text", []),
            "drop abe": ("drop", ["abe"]),
            "pan tin 3/2 -1/8": ("pan", ["tin", (3, 2), (-1, 8)]),
            "order abe loaf tin 0 10000": ("order", ["abe", "loaf", "tin", 0, 10000]),
            "stuff rye": ("stuff", ["rye", {}]),
            "stuff rye flour 0 price 7": ("stuff", ["rye", {"flour": (0, 1), "price": (7, 1)}]),
            "dough loaf 100": ("dough", ["loaf", 100, []]),
            "dough loaf 0 rye 1 rye -1/2": ("dough", ["loaf", 0, [("rye", (1, 1)), ("rye", (-1, 2))]]),
        }
        for row, told in wanted.items():
            self.assertEqual(read_row(row), told)

    def test_no_row(self):
        for row in ["", "texts", "text text", "drop", "drop abe abe", "pan tin 1", "order abe loaf tin 1", "stuff", "dough loaf",
                    "dough loaf 0 rye", "dough loaf 0 1 rye", "stuff rye flour", None, ["text"], b"text"]:
            with self.assertRaises(NoRow):
                read_row(row)


if __name__ == "__main__":
    unittest.main()
