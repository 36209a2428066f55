"""Readers of texts that show towns, prices, dealings and shares."""

from wantprices.dealings import LEFT
from wantprices.errors import NoText
from wantprices.sharelooks import is_share, rise_by_place
from wantprices.towns import MOST_HANDS, MOST_THINGS, is_sides
from wantprices.wants import is_want

MOST_FIGURES = 9
MOST_WORTH = 1000


def read_town(text):
    """The town that is written so."""
    lines = parted(text, "\n")
    sides = read_numbers(words_behind("sides", lines[0]))
    need(is_sides(sides), "there are 1 to 5 sides, each 0 or 1")
    need(2 <= len(lines) <= 1 + MOST_HANDS, "there are 1 to 5 wants")
    return (sides, tuple([read_want(words_behind("want", line), len(sides)) for line in lines[1:]]))


def read_want(words, many):
    """The want of so many things whose worths are written so, one in each word."""
    want = read_numbers(words)
    need(is_want(want, many) and max(want) <= MOST_WORTH, "that is no want of the town's things")
    return want


def read_prices(text):
    """(by, numbers) of the prices in parts that are written so."""
    parts = parted(text, " : ")
    need(len(parts) == 2, "prices are BY : N N ..")
    by = read_by(parts[0])
    numbers = read_numbers(parts[1].split(" "))
    need(len(numbers) <= MOST_THINGS, "there are at most 5 prices")
    return (by, numbers)


def read_dealing(text):
    """The dealing that is written so."""
    words = parted(text, " ")
    need(len(words) <= MOST_THINGS, "there are at most 5 things")
    dealing = tuple([LEFT if word == "-" else read_number(word) for word in words])
    need(max(dealing) < MOST_HANDS, "there are at most 5 hands")
    return dealing


def read_shares(text):
    """(by, rows) of the shares that are written so."""
    parts = parted(text, " ; ")
    by = read_by(parts[0])
    rows = tuple([read_numbers(part.split(" ")) for part in parts[1:]])
    need(all([is_share(row, MOST_THINGS, MOST_HANDS) for row in rows]), "a row is HAND HEAP PART")
    need(rise_by_place(rows), "rows rise, hand and heap of no two alike")
    return (by, rows)


def read_by(word):
    """The whole number from 1 on that is written so."""
    by = read_number(word)
    need(by > 0, "by is from 1 on")
    return by


def read_numbers(words):
    """The tuple of the numbers that are written so, one in each word."""
    return tuple([read_number(word) for word in words])


def read_number(word):
    """The number that is written so, by one to nine figures, no 0 ahead but in 0."""
    need(word.isascii() and word.isdecimal() and len(word) <= MOST_FIGURES, "a number has one to nine figures")
    need(word == "0" or word[0] != "0", "no 0 stands ahead in a number")
    return int(word)


def words_behind(word, line):
    """The words of the line behind its first one, which is that word."""
    first, *words = line.split(" ")
    need(first == word, f"the line does not begin with {word}")
    return words


def parted(thing, mark):
    """The parts between the marks of anything that has to be a text."""
    need(isinstance(thing, str), "that is no text")
    return thing.split(mark)


def need(holds, why):
    """Refuse the text where something that has to hold does not."""
    if not holds:
        raise NoText(why)
