"""Point 24: texts that show towns, prices, dealings and shares; 3 (i): what is written is read as it was."""

import unittest

from tests.samples import RING, chance, towns_of_all_kinds
from wantprices.finding import meeting
from wantprices.reading import read_dealing, read_prices, read_shares, read_town
from wantprices.sharing import shares
from wantprices.showing import show_dealing, show_prices, show_shares, show_town
from wantprices.sums import best_dealing


def lessened_to(town, most):
    """The town with no worth above the most."""
    return (town[0], tuple(tuple(min(worth, most) for worth in want) for want in town[1]))


class Shows(unittest.TestCase):

    def test_towns(self):
        self.assertEqual(show_town(((0,), ((0, 5),))), "sides 0\nwant 0 5")
        told = show_town(((0, 1), ((0, 4, 6, 1000), (0, 0, 0, 0))))
        self.assertEqual(told, "sides 0 1\nwant 0 4 6 1000\nwant 0 0 0 0")
        self.assertEqual(
            show_town(RING), "sides 0 0 0\nwant 0 0 0 1 0 0 0 1\nwant 0 0 0 0 0 1 0 1\nwant 0 0 0 0 0 0 1 1",
        )

    def test_prices(self):
        self.assertEqual(show_prices(1, (0, 2)), "1 : 0 2")
        self.assertEqual(show_prices(12, (7,)), "12 : 7")
        self.assertEqual(show_prices(999999999, (999999999, 0, 1, 10, 100)), "999999999 : 999999999 0 1 10 100")

    def test_dealings(self):
        self.assertEqual(show_dealing((0, -1, 1)), "0 - 1")
        self.assertEqual(show_dealing((-1,)), "-")
        self.assertEqual(show_dealing((4,)), "4")
        self.assertEqual(show_dealing((-1, -1, 0, 3, 4)), "- - 0 3 4")

    def test_shares(self):
        self.assertEqual(show_shares(1, ()), "1")
        self.assertEqual(show_shares(2, ((0, 1, 1),)), "2 ; 0 1 1")
        self.assertEqual(show_shares(2, ((0, 1, 1), (0, 2, 1), (1, 3, 1))), "2 ; 0 1 1 ; 0 2 1 ; 1 3 1")
        self.assertEqual(show_shares(999999999, ((4, 31, 999999999),)), "999999999 ; 4 31 999999999")

    def test_what_is_written_is_read_as_it_was(self):
        source = chance(601)
        for town in towns_of_all_kinds(602):
            small = lessened_to(town, 1000)
            text = show_town(small)
            self.assertIs(type(text), str)
            self.assertEqual(read_town(text), small)
            self.assertEqual(show_town(read_town(text)), text)
            dealings = [best_dealing(town), tuple(source.randint(-1, 4) for _ in town[0])]
            for dealing in dealings:
                text = show_dealing(dealing)
                self.assertIs(type(text), str)
                self.assertEqual(read_dealing(text), dealing)
            far = tuple(source.randint(0, 999999999) for _ in town[0])
            for by, numbers in ((1, (0,) * len(far)), (source.randint(1, 999999999), far)):
                text = show_prices(by, numbers)
                self.assertIs(type(text), str)
                self.assertEqual(read_prices(text), (by, numbers))

    def test_shares_are_read_as_they_were(self):
        for town in towns_of_all_kinds(603):
            by, rows = shares(town)[:2]
            text = show_shares(by, rows)
            self.assertIs(type(text), str)
            self.assertEqual(read_shares(text), (by, rows))
            told = meeting(town)
            if told[0] == "none":
                self.assertEqual(read_shares(show_shares(told[1], told[2])), told[1:])
            else:
                self.assertEqual(read_prices(show_prices(told[1], told[2])), told[1:3])

    def test_by_name_again_and_unchanged(self):
        self.assertEqual(show_town(town=RING), show_town(RING))
        self.assertEqual(show_prices(numbers=(0, 2), by=1), "1 : 0 2")
        self.assertEqual(show_dealing(dealing=(0, -1)), "0 -")
        self.assertEqual(show_shares(rows=((0, 1, 1),), by=2), "2 ; 0 1 1")


if __name__ == "__main__":
    unittest.main()
