"""Point 17: shares that are worth most, and what shows it."""

import unittest

from tests.samples import (
    RING, all_told, are_wholes_at_least, chance, plain_are_shares, plain_greatest, plain_shares_worth, set_of,
    some_town, town_of_sides, towns_of_all_kinds,
)
from wantprices.sharelooks import shows_shares
from wantprices.sharing import shares
from wantprices.sums import greatest


class Shares(unittest.TestCase):

    def check(self, town):
        """(what the shares are worth, by), behind a look at all that the document asks of them."""
        told = shares(town)
        self.assertTrue(all_told(told))
        self.assertEqual(len(told), 4)
        by, rows, numbers, gains = told
        self.assertTrue(plain_are_shares(town, by, rows), told)
        self.assertEqual((len(numbers), len(gains)), (len(town[0]), len(town[1])))
        self.assertTrue(are_wholes_at_least(numbers + gains, 0))
        for hand, want in enumerate(town[1]):
            for heap, worth in enumerate(want):
                self.assertGreaterEqual(gains[hand] + sum(numbers[thing] for thing in set_of(heap)), by * worth)
        self.assertEqual(plain_shares_worth(town, rows), sum(gains) + sum(numbers))
        self.assertIs(shows_shares(town, told), True)
        return (plain_shares_worth(town, rows), by)

    def test_one_thing(self):
        for side in (0, 1):
            for worths in ((7,), (0,), (7, 9), (9, 7, 9), (1, 2, 3, 4, 5), (0, 0, 0, 0, 0), (1000,) * 5):
                worth, by = self.check(((side,), tuple((0, here) for here in worths)))
                self.assertEqual(worth, by * max(worths))

    def test_written_out(self):
        # A half of each pair: each thing is in two of them.
        worth, by = self.check(RING)
        self.assertEqual(2 * worth, 3 * by)
        # A half of both things for hand 1, and for hand 0 a half of each.
        worth, by = self.check(((0, 0), ((0, 4, 6, 6), (0, 0, 0, 9))))
        self.assertEqual(2 * worth, 19 * by)

    def test_worth_nothing(self):
        for many in range(1, 6):
            for hands in range(1, 6):
                self.assertEqual(self.check(((0,) * many, ((0,) * 2 ** many,) * hands))[0], 0)

    def test_towns_of_all_kinds(self):
        above = 0
        for town in towns_of_all_kinds(191):
            worth, by = self.check(town)
            self.assertGreaterEqual(worth, by * greatest(town))
            above += worth > by * greatest(town)
        self.assertGreater(above, 10)

    def test_of_its_sides_no_shares_are_worth_more_than_a_dealing(self):
        source = chance(192)
        for many in range(1, 6):
            for hands in range(1, 6):
                for most in (1, 3, 1000):
                    town = town_of_sides(source, many, hands, most)
                    worth, by = self.check(town)
                    self.assertEqual(worth, by * greatest(town))

    def test_no_less_than_any_dealing(self):
        source = chance(193)
        for many in range(1, 4):
            for hands in range(1, 4):
                town = some_town(source, many, hands, 9)
                worth, by = self.check(town)
                self.assertGreaterEqual(worth, by * plain_greatest(town))

    def test_worths_beyond_a_thousand(self):
        far = 10 ** 30
        worth, by = self.check((RING[0], tuple(tuple(far * here for here in want) for want in RING[1])))
        self.assertEqual(2 * worth, 3 * far * by)

    def test_by_name_again_and_unchanged(self):
        told = shares(RING)
        self.assertEqual(shares(town=RING), told)
        for town in towns_of_all_kinds(194, 3, 3):
            self.assertEqual(shares(town), shares(town))


if __name__ == "__main__":
    unittest.main()
