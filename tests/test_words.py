"""Words read as numbers, fractions and measures."""

import unittest

from loafshares.fractions import fraction_text
from loafshares.words import fraction_of_word, in_twos, measures_of_words, whole_of_word


class TestNumbers(unittest.TestCase):
    def test_whole_numbers(self):
        for number in [0, 1, 9, 10, 99, 100, 909, 10 ** 4000]:
            self.assertEqual(whole_of_word(str(number)), number)

    def test_no_whole_numbers(self):
        for word in ["", "00", "01", "-1", "+1", "-0", "1 ", " 1", "1_0", "1.0", "a", "1a", "1/2", "\u0661", "\u00b2", "9" * 4301]:
            self.assertIsNone(whole_of_word(word))

    def test_fractions(self):
        for one in [(0, 1), (1, 1), (-1, 1), (3, 4), (-3, 4), (10, 9), (999999999999, 999999999998), (-(10 ** 3000), 7)]:
            self.assertEqual(fraction_of_word(fraction_text(one)), one)

    def test_no_fractions(self):
        for word in [
            "", "-", "/", "1/", "/1", "-/2", "0/1", "-0", "3/1", "0/3", "6/4", "1/0", "01", "1/02", "--1", "1/-2", "1/2/3", "+1",
            "1.5", " 1", "1 ", "1 /2", "1_0", "a", "1/a", "\u0661", "9" * 4301, "1/" + "9" * 4301,
        ]:
            self.assertIsNone(fraction_of_word(word))


class TestMeasures(unittest.TestCase):
    def test_in_twos(self):
        self.assertEqual(in_twos([]), [])
        self.assertEqual(in_twos(list("abcd")), [("a", "b"), ("c", "d")])
        self.assertIsNone(in_twos(list("abc")))

    def test_measures(self):
        self.assertEqual(measures_of_words([]), {})
        self.assertEqual(measures_of_words(["water", "0", "price", "-1/2"]), {"water": (0, 1), "price": (-1, 2)})
        words = "flour 1 water 2 salt 3 thirst 4 price 5".split()
        wanted = {"flour": (1, 1), "water": (2, 1), "salt": (3, 1), "thirst": (4, 1), "price": (5, 1)}
        self.assertEqual(measures_of_words(words), wanted)

    def test_no_measures(self):
        for words in ["flour", "1", "flour 1 water", "flour one", "oil 1", "water 1 flour 1", "flour 1 flour 1", "flour flour"]:
            self.assertIsNone(measures_of_words(words.split()))


if __name__ == "__main__":
    unittest.main()
