"""Point 18: prices that meet, or shares that show that none do; 3 (b): just one of both of each town."""

import unittest

from tests.samples import (
    RING, all_told, all_wants, are_wholes, chance, plain_are_shares, plain_greatest, plain_meets, plain_shares_worth,
    town_of_sides, towns_of_all_kinds,
)
from wantprices.finding import meeting
from wantprices.kinds import first_strange
from wantprices.made import alone, joined, paired, some_of
from wantprices.meetings import are_meeting, shows_meeting, surplus
from wantprices.sharelooks import shows_none
from wantprices.sharing import shares
from wantprices.sums import best_dealing, greatest


class Meeting(unittest.TestCase):

    def check(self, town):
        """Of which kind the answer is; all that the document asks of it is looked at."""
        told = meeting(town)
        self.assertTrue(all_told(told))
        if told[0] == "prices":
            by, numbers, dealing = told[1:]
            self.assertTrue(are_wholes((by,) + numbers + dealing))
            self.assertGreaterEqual(min((by - 1,) + numbers), 0)
            self.assertEqual(dealing, best_dealing(town))
            self.assertTrue(plain_meets(town, by, numbers, dealing), told)
            self.assertIs(shows_meeting(town, told[1:]), True)
            self.assertIs(are_meeting(town, by, numbers), True)
            self.assertEqual(surplus(town, by, numbers), by * greatest(town))
            # So no shares show that none do.
            self.assertIs(shows_none(town, shares(town)[:2]), False)
        else:
            self.assertEqual((told[0], len(told)), ("none", 3))
            by, rows = told[1:]
            self.assertTrue(plain_are_shares(town, by, rows), told)
            self.assertGreater(plain_shares_worth(town, rows), by * greatest(town))
            self.assertIs(shows_none(town, told[1:]), True)
            self.assertIs(are_meeting(town, by, shares(town)[2]), False)
        return told[0]

    def test_one_thing(self):
        for worths in ((7,), (0,), (7, 9), (9, 7, 9), (1, 2, 3, 4, 5), (0,) * 5, (1000,) * 5):
            town = ((0,), tuple((0, worth) for worth in worths))
            self.assertEqual(self.check(town), "prices")
            by, (number,) = meeting(town)[1:3]
            second, first = sorted((0,) + worths)[-2:]
            self.assertLessEqual(by * second, number)
            self.assertLessEqual(number, by * first)

    def test_the_only_prices(self):
        told = meeting(((0, 0), ((0, 4, 6, 6), (0, 0, 2, 2))))
        by = told[1]
        self.assertEqual(told, ("prices", by, (0, 2 * by), (-1, 0)))

    def test_none(self):
        self.assertEqual(self.check(RING), "none")
        self.assertEqual(self.check(((0, 0), ((0, 4, 6, 6), (0, 0, 0, 9)))), "none")
        # What one wants of either side and another of the other kind.
        self.assertEqual(self.check(((0, 1), ((0, 1, 1, 1), (0, 0, 0, 1)))), "none")

    def test_prices_in_towns_that_are_not_of_their_sides(self):
        for town in (((0, 0), ((0, 0, 0, 9),)), ((0, 0), ((0, 4, 6, 6), (0, 0, 0, 10))), ((0, 0), ((0, 1, 1, 5),) * 2)):
            self.assertIsNotNone(first_strange(town))
            self.assertEqual(self.check(town), "prices")

    def test_towns_of_all_kinds(self):
        seen = []
        for town in towns_of_all_kinds(221):
            kind = self.check(town)
            seen.append((kind, first_strange(town) is None))
        self.assertNotIn(("none", True), seen)
        for both in (("none", False), ("prices", False), ("prices", True)):
            self.assertGreater(seen.count(both), 10)

    def test_all_small_towns(self):
        seen = {}
        wants = all_wants(2, 2)
        for sides in ((0, 0), (0, 1)):
            for one in wants:
                for other in wants:
                    kind = self.check((sides, (one, other)))
                    seen[kind] = seen.get(kind, 0) + 1
                    self.assertEqual(greatest((sides, (one, other))), plain_greatest((sides, (one, other))))
        self.assertGreater(seen["prices"], 50)
        self.assertGreater(seen["none"], 10)

    def test_of_their_sides_prices_meet(self):
        source = chance(222)
        for many in range(1, 6):
            for hands in range(1, 6):
                for most in (1, 1000):
                    self.assertEqual(self.check(town_of_sides(source, many, hands, most)), "prices")

    def test_of_what_is_made(self):
        source = chance(223)
        for hands in range(1, 6):
            worths = [tuple(source.randint(0, 1000) for _ in range(4)) for _ in range(hands)]
            rows = ((0, 1, source.randint(0, 1000)), (2, 1, source.randint(0, 1000)), (2, 3, source.randint(0, 1000)))
            sides = (0, 1, 0, 1)
            mixed = tuple(joined(alone(here), paired(sides, rows)) for here in worths)
            self.assertEqual(self.check((sides, mixed)), "prices")
            some = tuple(some_of(here, source.randint(0, 4)) for here in worths)
            self.assertEqual(self.check(((0,) * 4, some)), "prices")

    def test_a_ring_of_five(self):
        pairs = [2 ** thing + 2 ** ((thing + 1) % 5) for thing in range(5)]
        wants = tuple(tuple(1000 * (heap & pair == pair) for heap in range(32)) for pair in pairs)
        self.assertEqual(self.check(((0,) * 5, wants)), "none")

    def test_worths_beyond_a_thousand(self):
        far = 10 ** 30
        self.assertEqual(self.check(((0, 0), ((0, far, far, far), (0, far, 2 * far, 2 * far)))), "prices")
        self.assertEqual(self.check(((0, 0), ((0, far, far, far), (0, 0, 0, 2 * far - 1)))), "none")
        self.assertEqual(self.check(((0, 0), ((0, far, far, far), (0, 0, 0, 2 * far)))), "prices")

    def test_by_name_again_and_unchanged(self):
        self.assertEqual(meeting(town=RING), meeting(RING))
        for town in towns_of_all_kinds(224, 3, 3):
            self.assertEqual(meeting(town), meeting(town))


if __name__ == "__main__":
    unittest.main()
