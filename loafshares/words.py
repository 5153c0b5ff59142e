"""Words of texts and rows, read as numbers, fractions and measures."""

from loafshares.fractions import fraction_text, is_fraction
from loafshares.stuffs import WORDS

FIGURES = "0123456789"
# Python neither reads nor writes a number of more figures
MOST_FIGURES = 4300


def are_figures(word):
    """Whether a word is the figures of a whole number from 0 on, without needless noughts."""
    if not 1 <= len(word) <= MOST_FIGURES:
        return False
    if word[0] == "0" and word != "0":
        return False
    return all([sign in FIGURES for sign in word])


def whole_of_word(word):
    """The whole number that a word tells, None where it tells none."""
    if not are_figures(word):
        return None
    return int(word)


def fraction_of_word(word):
    """The fraction whose text a word is, None where it is the text of none."""
    top, line, bottom = word.partition("/")
    if line == "":
        bottom = "1"
    if not are_figures(top.removeprefix("-")) or not are_figures(bottom):
        return None
    told = (int(top), int(bottom))
    if not is_fraction(told) or fraction_text(told) != word:
        return None
    return told


def in_twos(words):
    """Tuples of each two words, None where one is left over."""
    if len(words) % 2 == 1:
        return None
    return list(zip(words[::2], words[1::2]))


def measures_of_words(words):
    """A dict from the words of measures to fractions, None where these are no measures, in order and none twice."""
    pairs = in_twos(words)
    if pairs is None:
        return None
    measures = {word: fraction_of_word(told) for word, told in pairs}
    if None in list(measures.values()):
        return None
    if [word for word, told in pairs] != [word for word in WORDS if word in measures]:
        return None
    return measures
