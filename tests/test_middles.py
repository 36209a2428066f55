"""Point 22: the lower and the higher of two prices, and their middles; 3 (e): these meet where both do."""

import unittest
from itertools import product

from tests.samples import (
    are_wholes, chance, clustered_town, plain_meets, some_prices, some_sides, some_town, towns_of_all_kinds,
    towns_of_sides,
)
from wantprices.bounds import high_prices, low_prices
from wantprices.finding import meeting
from wantprices.meetings import are_meeting
from wantprices.middles import between, higher, lower, middles
from wantprices.stepping import falling, rising
from wantprices.sums import best_dealing


def some_pairs(source, pairs, many):
    """Some of all pairs."""
    every = list(product(pairs, pairs))
    return source.sample(every, min(many, len(every)))


def meeting_prices(town, by, most):
    """All prices in parts that meet, up to the most."""
    return [numbers for numbers in product(range(most + 1), repeat=len(town[0])) if are_meeting(town, by, numbers)]


class Whole(unittest.TestCase):

    def test_lower_and_higher(self):
        self.assertEqual(lower((0, 0), (1, 5), (3, 2)), (1, 2))
        self.assertEqual(higher((0, 0), (1, 5), (3, 2)), (3, 5))
        self.assertEqual(lower((1, 1), (1, 5), (3, 2)), (3, 5))
        self.assertEqual(higher((1, 1), (1, 5), (3, 2)), (1, 2))
        self.assertEqual(lower((0, 1), (1, 5), (3, 2)), (1, 5))
        self.assertEqual(higher((0, 1), (1, 5), (3, 2)), (3, 2))
        self.assertEqual(lower((0, 1, 0, 1, 0), (-1, -1, 0, 7, 7), (-2, -2, 0, 7, 8)), (-2, -1, 0, 7, 7))
        self.assertEqual(higher((0, 1, 0, 1, 0), (-1, -1, 0, 7, 7), (-2, -2, 0, 7, 8)), (-1, -2, 0, 7, 8))

    def test_middles(self):
        self.assertEqual(middles((0, 0), (1, 5), (4, 3)), ((2, 4), (3, 4)))
        self.assertEqual(middles((1, 1), (1, 5), (4, 3)), ((3, 4), (2, 4)))
        self.assertEqual(middles((0, 1), (1, 2), (2, 1)), ((1, 2), (2, 1)))
        self.assertEqual(middles((0,), (4,), (4,)), ((4,), (4,)))
        self.assertEqual(middles((0, 1, 0, 1, 0), (0, 0, 1, 1, 9), (1, 1, 1, 1, 0)), ((0, 1, 1, 1, 4), (1, 0, 1, 1, 5)))

    def test_middles_below_nought(self):
        # Down is to the lesser one, not towards 0.
        self.assertEqual(middles((0,), (-1,), (0,)), ((-1,), (0,)))
        self.assertEqual(middles((1,), (-1,), (0,)), ((0,), (-1,)))
        self.assertEqual(middles((0, 1), (-3, -3), (-4, -4)), ((-4, -3), (-3, -4)))
        self.assertEqual(middles((0, 1), (-10 ** 6, 10 ** 6), (10 ** 6 - 1, 1 - 10 ** 6)), ((-1, 1), (0, 0)))

    def test_against_the_words(self):
        source = chance(421)
        for many in range(1, 6):
            for most in (1, 9, 10 ** 6):
                for sides in ((0,) * many, (1,) * many, some_sides(source, many)):
                    one, other = some_prices(source, many, most), some_prices(source, many, most)
                    low, high = middles(sides, one, other)
                    below, above = lower(sides, one, other), higher(sides, one, other)
                    for prices in (low, high, below, above):
                        self.assertTrue(are_wholes(prices))
                        self.assertEqual(len(prices), many)
                    for thing in range(many):
                        lesser, greater = sorted((one[thing], other[thing]))
                        both = [below[thing], above[thing]]
                        rounded = [low[thing], high[thing]]
                        if sides[thing] == 1:
                            both, rounded = both[::-1], rounded[::-1]
                        self.assertEqual(both, [lesser, greater])
                        self.assertEqual(sum(rounded), lesser + greater)
                        self.assertIn(rounded[1] - rounded[0], (0, 1))

    def test_whichever_comes_first(self):
        source = chance(422)
        for many in range(1, 6):
            sides = some_sides(source, many)
            one, other = some_prices(source, many, 5), some_prices(source, many, 5)
            for of_two in (lower, higher, middles):
                self.assertEqual(of_two(sides, one, other), of_two(sides, other, one))
            self.assertEqual(lower(sides, one, one), one)
            self.assertEqual(higher(sides, one, one), one)
            self.assertEqual(middles(sides, one, one), (one, one))

    def test_in_a_town_of_its_sides_all_of_them_meet(self):
        source = chance(423)
        seen = 0
        for town in towns_of_sides(424, (2, 4), 3, 3):
            sides = town[0]
            most = max(low_prices(town) + high_prices(town))
            if (most + 1) ** len(sides) > 600:
                continue
            dealing = best_dealing(town)
            for one, other in some_pairs(source, meeting_prices(town, 1, most), 20):
                low, high = middles(sides, one, other)
                for prices in (low, high, lower(sides, one, other), higher(sides, one, other)):
                    self.assertIs(are_meeting(town, 1, prices), True)
                    self.assertTrue(plain_meets(town, 1, prices, dealing))
                    seen += one != other
        self.assertGreater(seen, 300)

    def test_of_the_ends_of_all_steps(self):
        for town in towns_of_sides(425, (2, 200)):
            low, high = rising(town)[1], falling(town)[1]
            self.assertEqual(lower(town[0], low, high), low)
            self.assertEqual(higher(town[0], low, high), high)
            for prices in middles(town[0], low, high):
                self.assertIs(are_meeting(town, 1, prices), True)
                self.assertEqual(lower(town[0], low, prices), low)
                self.assertEqual(higher(town[0], high, prices), high)

    def test_by_name_again_and_unchanged(self):
        sides, one, other = (0, 1), (1, 5), (4, 3)
        self.assertEqual(lower(other=other, one=one, sides=sides), (1, 5))
        self.assertEqual(higher(other=other, one=one, sides=sides), (4, 3))
        self.assertEqual(middles(other=other, one=one, sides=sides), ((2, 4), (3, 4)))
        self.assertEqual((sides, one, other), ((0, 1), (1, 5), (4, 3)))


class Between(unittest.TestCase):

    def test_written_out(self):
        self.assertEqual(between((1, (0, 2)), (1, (2, 2))), (2, (2, 4)))
        self.assertEqual(between((2, (1, 3)), (3, (4, 0))), (12, (11, 9)))
        self.assertEqual(between((3, (4, 0)), (2, (1, 3))), (12, (11, 9)))
        self.assertEqual(between((1, (7,)), (1, (7,))), (2, (14,)))
        self.assertEqual(between((5, (0, 1, 2, 3, 4)), (7, (4, 3, 2, 1, 0))), (70, (20, 22, 24, 26, 28)))
        far = 10 ** 50
        self.assertEqual(between((far, (far + 1,)), (far, (1,))), (2 * far * far, (far * far + 2 * far,)))

    def test_kinds(self):
        by, numbers = between((2, (1, 3)), (3, (4, 0)))
        self.assertIs(type(by), int)
        self.assertTrue(are_wholes(numbers))

    def test_the_middle_of_two_that_meet_meets(self):
        source = chance(431)
        towns = towns_of_sides(432, (2,), 3, 2)
        towns += [some_town(source, 2, hands, 3) for hands in range(1, 6) for _ in range(4)]
        towns += [clustered_town(source, 3, hands, 2) for hands in range(1, 4) for _ in range(2)]
        seen = 0
        for town in towns:
            most = max(want[-1] for want in town[1])
            if (3 * most + 1) ** len(town[0]) > 1000:
                continue
            prices = [(by, numbers) for by in (1, 2, 3) for numbers in meeting_prices(town, by, by * most)]
            for one, other in some_pairs(source, prices, 20):
                by, numbers = between(one, other)
                self.assertIs(are_meeting(town, by, numbers), True)
                self.assertTrue(plain_meets(town, by, numbers, best_dealing(town)))
                seen += 1
        self.assertGreater(seen, 300)

    def test_of_what_is_told(self):
        for town in towns_of_all_kinds(433):
            told = meeting(town)
            if told[0] == "prices":
                by, numbers = between(told[1:3], (2 * told[1], tuple(2 * number for number in told[2])))
                self.assertEqual(by, 4 * told[1] * told[1])
                self.assertIs(are_meeting(town, by, numbers), True)
        for town in towns_of_sides(434, (3,), 4, 3):
            by, numbers = between((1, low_prices(town)), (1, high_prices(town)))
            self.assertIs(are_meeting(town, by, numbers), True)
            self.assertIs(are_meeting(town, *between((by, numbers), meeting(town)[1:3])), True)

    def test_by_name_again_and_unchanged(self):
        one, other = (2, (1, 3)), (3, (4, 0))
        self.assertEqual(between(other=other, one=one), (12, (11, 9)))
        self.assertEqual((one, other), ((2, (1, 3)), (3, (4, 0))))


if __name__ == "__main__":
    unittest.main()
