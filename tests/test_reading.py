"""Point 24: readers, at what writers show, at the same spoilt in one place, and at anything."""

import re
import unittest

from tests.samples import are_wholes, chance, set_of, strange_things, towns_of_all_kinds
from wantprices.errors import NoText, WantError
from wantprices.reading import read_dealing, read_prices, read_shares, read_town
from wantprices.showing import show_dealing, show_prices, show_shares, show_town

NUMBER = re.compile("0|[1-9][0-9]{0,8}")

TOWNS = (
    "sides 0\nwant 0 5",
    "sides 1 0\nwant 0 4 6 1000\nwant 0 0 0 0",
    "sides 0 0\nwant 0 4 6 6\nwant 0 0 2 2\nwant 0 10 10 10\nwant 0 1 1 1\nwant 0 0 0 9",
    "sides 0 1 0\nwant 0 1 2 3 4 5 6 7",
    "sides 0 0 0 0 0\nwant 0" + " 7" * 31,
)
PRICES = ("1 : 0", "2 : 1 0", "999999999 : 999999999 0 10 7 1")
DEALINGS = ("0", "-", "4 - 0", "0 1 2 3 4", "- - - - -")
SHARES = ("1", "2 ; 0 1 1", "2 ; 0 1 1 ; 0 2 1 ; 1 3 1", "999999999 ; 4 31 999999999")


def plain_number(word):
    """The number of a word; None where it is none."""
    return int(word) if NUMBER.fullmatch(word) else None


def plain_numbers(words):
    numbers = [plain_number(word) for word in words]
    return None if None in numbers else tuple(numbers)


def plain_town(text):
    """The town of a text; None where it is none."""
    lines = text.split("\n")
    if not re.fullmatch("sides( [01]){1,5}", lines[0]) or not 2 <= len(lines) <= 6:
        return None
    sides = plain_numbers(lines[0].split(" ")[1:])
    wants = []
    for line in lines[1:]:
        want = plain_numbers(line[5:].split(" ")) if line.startswith("want ") else None
        if want is None or len(want) != 2 ** len(sides) or want[0] != 0 or max(want) > 1000:
            return None
        heaps = range(len(want))
        if any(want[one] > want[other] for one in heaps for other in heaps if set_of(one) <= set_of(other)):
            return None
        wants.append(want)
    return (sides, tuple(wants))


def plain_prices(text):
    """(by, numbers) of a text; None where it is none."""
    words = text.split(" ")
    if not 3 <= len(words) <= 7 or words[1] != ":":
        return None
    told = plain_numbers(words[:1] + words[2:])
    return None if told is None or told[0] < 1 else (told[0], told[1:])


def plain_dealing(text):
    """The dealing of a text; None where it is none."""
    if not re.fullmatch("[-0-4]( [-0-4]){0,4}", text):
        return None
    return tuple(-1 if sign == "-" else int(sign) for sign in text[::2])


def plain_shares(text):
    """(by, rows) of a text; None where it is none."""
    first, *parts = text.split(" ; ")
    by = plain_number(first)
    rows = tuple(plain_numbers(part.split(" ")) for part in parts)
    if by is None or by < 1 or None in rows or any(len(row) != 3 for row in rows):
        return None
    if any(hand > 4 or not 1 <= heap <= 31 or part < 1 for hand, heap, part in rows):
        return None
    for (hand, heap, _), (other_hand, other_heap, _) in zip(rows, rows[1:]):
        if hand > other_hand or hand == other_hand and heap >= other_heap:
            return None
    return (by, rows)


READERS = (
    (read_town, plain_town, TOWNS), (read_prices, plain_prices, PRICES), (read_dealing, plain_dealing, DEALINGS),
    (read_shares, plain_shares, SHARES),
)


def spoilt(text):
    """All that comes of a text by another word in one place, a blank or a line feed more or less, and the like."""
    for at in range(len(text) + 1):
        for sign in " \n0a-:;|\t\r+._19/,":
            yield text[:at] + sign + text[at:]
            yield text[:at] + sign + text[at + 1:]
        yield text[:at] + text[at + 1:]
        yield text[:at]
        yield text[at:]
    words = re.split("([ \n])", text)
    others = (
        "", "0", "00", "01", "1", "-1", "+1", "1.0", "1e1", "1_0", "0x1", "5", "31", "32", "1000", "1001", "999999999",
        "1000000000", "0000000001", "9999999999", "sides", "want", "Sides", "wants", "-", "--", ":", ";", "None",
        "True",
    )
    for at in range(0, len(words), 2):
        for word in others:
            yield "".join(words[:at] + [word] + words[at + 1:])
            yield "".join(words[:at] + [word, " "] + words[at:])
        yield "".join(words[:at] + words[at + 2:])
    for extra in (" ", "\n", "\n\n", " \n", "\nwant", "\nwant ", " 0", " ;", " ; ", " : ", ":", " | "):
        yield text + extra
        yield extra + text
    for old, new in ((" ", "  "), ("\n", "\n\n"), ("\n", " "), (" ", "\n"), ("\n", "\r\n"), ("\n", "/"), (" ", "\t")):
        yield text.replace(old, new)
    yield text.upper()
    yield text + "\n" + text
    yield text + " " + text


class Reads(unittest.TestCase):

    def read(self, reader, text):
        """What is read, None where it is refused with NoText."""
        try:
            return reader(text)
        except WantError as caught:
            self.assertIs(type(caught), NoText)
            return None

    def test_towns(self):
        self.assertEqual(read_town("sides 0\nwant 0 5"), ((0,), ((0, 5),)))
        told = read_town("sides 1 0\nwant 0 4 6 1000\nwant 0 0 0 0")
        self.assertEqual(told, ((1, 0), ((0, 4, 6, 1000), (0, 0, 0, 0))))
        for many in range(1, 6):
            for hands in range(1, 6):
                town = ((0, 1, 1, 0, 0)[:many], ((0,) + (1000,) * (2 ** many - 1),) * hands)
                self.assertEqual(read_town(show_town(town)), town)

    def test_no_towns(self):
        for text in (
            "", "\n", "sides", "sides ", "sides 0", "sides 0\n", "sides 0\nwant", "sides 0\nwant ", "sides 0\nwant 0",
            "sides 0\nwant 0 1 2", "sides 0\nwant 0 1\n", "sides 0\n\nwant 0 1", "\nsides 0\nwant 0 1", "want 0 1",
            "want 0 1\nsides 0", "sides 2\nwant 0 1", "sides -1\nwant 0 1", "sides 00\nwant 0 1", "sides 0\nwant 00 1",
            "sides 0\nwant 0 01", "sides 0\nwant 1 1", "sides 0\nwant 0 1001", "sides 0\nwant 0 1000000000",
            "sides 0\nwant 0 -1", "sides 0\nwant 0 +1", "sides 0  1\nwant 0 1 1 1", "sides 0 1\nwant 0 1 1  1",
            "sides 0 1\nwant 0 2 1 1", "sides 0 1\nwant 0 1 2 1", " sides 0\nwant 0 1", "sides 0 \nwant 0 1",
            "sides 0\nwant 0 1 ", "sides 0\nwant\n0 1", "sides 0\nsides 0", "sides 0\nWant 0 1", "sides 0/want 0 1",
            "sides 0\nwant 0 1" * 2, "sides 0" + "\nwant 0 1" * 6, "sides 0 0 0 0 0 0\nwant" + " 0" * 64,
            "sides 0\nwant 0 1\nwant 0", "sides 0\nwant 0 1\nwant 0 1 1",
        ):
            self.assertIsNone(self.read(read_town, text), text)

    def test_prices(self):
        self.assertEqual(read_prices("1 : 0 2"), (1, (0, 2)))
        self.assertEqual(read_prices("12 : 7"), (12, (7,)))
        self.assertEqual(read_prices("999999999 : 999999999 0 1 10 100"), (999999999, (999999999, 0, 1, 10, 100)))

    def test_no_prices(self):
        for text in (
            "", ":", " : ", "1", "1 :", "1 : ", "1:0", "1 :0", "1: 0", " : 0", "0 : 0", "-1 : 0", "01 : 0", "1 : 00",
            "1 : 01", "1 : -1", "1 : 0 1 2 3 4 5", "1 :  0", "1  : 0", "1 : 0  1", "1 : 0 ", " 1 : 0", "1 : 0\n",
            "1 : : 0",
            "1 : 0 : 0", "1 ; 0", "1 : 1000000000", "1000000000 : 0", "1 1 : 0", "1 : 0,1", "1 : -", "1 : 0x1",
            "1\n: 0",
            "0000000001 : 0", "1 : 1.0", "1 : 1e3", "1 : 1_0", "1 :\n0",
        ):
            self.assertIsNone(self.read(read_prices, text), text)

    def test_dealings(self):
        self.assertEqual(read_dealing("0 - 1"), (0, -1, 1))
        self.assertEqual(read_dealing("-"), (-1,))
        self.assertEqual(read_dealing("4"), (4,))
        self.assertEqual(read_dealing("- - 0 3 4"), (-1, -1, 0, 3, 4))

    def test_no_dealings(self):
        for text in (
            "", " ", "5", "-1", "--", "- -1", "00", "01", "0 ", " 0", "0  1", "0\n", "0,1", "0\n1", "- - - - - -",
            "0 1 2 3 4 0", "0 1 2 3 5", "10", "1000000000", "0.", "a", "0 a", "\n", "0 :", "0-1", "None",
        ):
            self.assertIsNone(self.read(read_dealing, text), text)

    def test_shares(self):
        self.assertEqual(read_shares("1"), (1, ()))
        self.assertEqual(read_shares("2 ; 0 1 1"), (2, ((0, 1, 1),)))
        self.assertEqual(read_shares("2 ; 0 1 1 ; 0 2 1 ; 1 3 1"), (2, ((0, 1, 1), (0, 2, 1), (1, 3, 1))))
        self.assertEqual(read_shares("1 ; 4 31 999999999"), (1, ((4, 31, 999999999),)))
        # Rows rise by their heaps' numbers, not by their texts.
        self.assertEqual(read_shares("3 ; 0 2 1 ; 0 10 1"), (3, ((0, 2, 1), (0, 10, 1))))
        # Whether they are within by nobody asks here.
        self.assertEqual(read_shares("1 ; 0 1 9 ; 0 2 9"), (1, ((0, 1, 9), (0, 2, 9))))

    def test_no_shares(self):
        for text in (
            "", "0", "01", "-1", "1 ", " 1", "1 ;", "1 ; ", "1;0 1 1", "1 ;0 1 1", "1; 0 1 1", "1 ; 0 1", "1 ; 0 1 1 1",
            "1 ; 0 0 1", "1 ; 0 32 1", "1 ; 5 1 1", "1 ; 0 1 0", "1 ; 0 1 1 ;", "1 ; 0 1 1 ; ", "1 ; 0 1 1 ; 0 1 1",
            "1 ; 0 1 1 ; 0 1 2", "1 ; 0 2 1 ; 0 1 1", "1 ; 1 1 1 ; 0 2 1", "1 ; 0 10 1 ; 0 2 1", "1 ;  0 1 1",
            "1  ; 0 1 1",
            "1 ; 0 1  1", "1 ; 00 1 1", "1 ; 0 01 1", "1 ; 0 1 01", "1 ; 0 1 1000000000", "1000000000", "1 ; - 1 1",
            "1 ; -1 1 1", "1\n", "1 ; 0 1 1\n", "1 ; 0 1 1 ; ; 0 2 1", "; 0 1 1", " ; 0 1 1", "0 ; 0 1 1", "1 : 0 1 1",
            "0000000001", "1 2", "1 ; 0,1,1",
        ):
            self.assertIsNone(self.read(read_shares, text), text)

    def test_spoilt_in_one_place(self):
        for reader, plain, texts in READERS:
            read, refused = 0, 0
            for text in texts:
                self.assertIsNotNone(self.read(reader, text))
                for worse in {worse: True for worse in spoilt(text)}:
                    told = self.read(reader, worse)
                    self.assertEqual(told, plain(worse), worse)
                    read += told is not None
                    refused += told is None
            self.assertGreater(read, 20)
            self.assertGreater(refused, 200)

    def test_one_text_is_not_another(self):
        for reader, plain, _ in READERS:
            for _, _, texts in READERS:
                for text in texts:
                    self.assertEqual(self.read(reader, text), plain(text))

    def test_just_what_writers_show(self):
        for reader, show, texts in (
            (read_town, show_town, TOWNS), (read_dealing, show_dealing, DEALINGS),
            (read_prices, lambda told: show_prices(*told), PRICES),
            (read_shares, lambda told: show_shares(*told), SHARES),
        ):
            for text in texts:
                for worse in spoilt(text):
                    told = self.read(reader, worse)
                    if told is not None:
                        self.assertEqual(show(told), worse)

    def test_great_towns_spoilt_in_some_place(self):
        source = chance(611)
        for town in towns_of_all_kinds(612):
            text = show_town(town)
            self.assertEqual(self.read(read_town, text), plain_town(text))
            for _ in range(5):
                at = source.randrange(len(text))
                worse = text[:at] + source.choice(" 0129\n") + text[at + source.randint(0, 1):]
                self.assertEqual(self.read(read_town, worse), plain_town(worse))

    def test_numbers_are_no_truths(self):
        sides, wants = read_town("sides 0 1\nwant 0 1 1 1")
        self.assertTrue(are_wholes(sides) and are_wholes(wants[0]))
        by, numbers = read_prices("1 : 0 1")
        self.assertTrue(are_wholes((by,) + numbers))
        self.assertTrue(are_wholes(read_dealing("0 1 -")))
        by, rows = read_shares("1 ; 0 1 1")
        self.assertTrue(are_wholes((by,) + rows[0]))

    def test_anything_is_refused(self):
        things = [thing for thing in strange_things() if not isinstance(thing, str)]
        things += [("sides 0\nwant 0 1",), ["1 : 0"], b"1 : 0", b"-", b"1", 0, 1, {"1": "1"}]
        things += [(1, (0,)), ((0,), ((0, 1),))]
        for reader, _, _ in READERS:
            for thing in things:
                with self.assertRaises(NoText):
                    reader(thing)

    def test_figures_of_other_scripts(self):
        for sign in ("\u0663", "\uff13", "\u00b3"):
            for reader, _, texts in READERS:
                for text in texts:
                    for at in range(len(text)):
                        with self.assertRaises(NoText):
                            reader(text[:at] + sign + text[at + 1:])

    def test_by_name_and_again(self):
        for reader, _, texts in READERS:
            for text in texts:
                self.assertEqual(reader(text=text), reader(text))


if __name__ == "__main__":
    unittest.main()
