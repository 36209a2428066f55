"""Point 20: steps that go on from other prices; 3 (g): with a hand more, and with a hand fewer."""

import unittest

from tests.samples import (
    RING, all_told, assigning, chance, falls, greatest_difference, plain_first_prices, plain_stepped,
    plain_steps, set_of, towns_of_sides,
)
from wantprices.bounds import greatest_price, high_prices, least_price, low_prices
from wantprices.errors import Beyond, NotOfKind, WantError
from wantprices.goingon import falling_from, rising_from
from wantprices.made import alone, paired, some_of
from wantprices.stepping import falling, rising

BOTH = (("below", rising_from, rising, low_prices), ("above", falling_from, falling, high_prices))

# Hand 0 wants one thing, hand 1 the second one.
TOWN = ((0, 0), ((0, 4, 6, 6), (0, 0, 2, 2)))


def prices_ahead(source, town, last, way, most):
    """Prices from which steps lead to the last ones."""
    return tuple(
        price + source.randint(0, most) if falls(side, way) else source.randint(max(0, price - most), price)
        for side, price in zip(town[0], last)
    )


class GoingOn(unittest.TestCase):

    def test_one_thing(self):
        town = ((0,), ((0, 5), (0, 3)))
        for price in range(4):
            self.assertEqual(rising_from(town, (price,)), ((1,) * (3 - price), (3,)))
        for price in range(5, 9):
            self.assertEqual(falling_from(town, (price,)), ((1,) * (price - 5), (5,)))
        other = ((1,), town[1])
        for price in range(5, 9):
            self.assertEqual(rising_from(other, (price,)), ((1,) * (price - 5), (5,)))
        for price in range(4):
            self.assertEqual(falling_from(other, (price,)), ((1,) * (3 - price), (3,)))

    def test_two_things(self):
        self.assertEqual(rising_from(TOWN, (0, 0)), ((2, 2), (0, 2)))
        self.assertEqual(rising_from(TOWN, (0, 1)), ((2,), (0, 2)))
        self.assertEqual(rising_from(TOWN, (0, 2)), ((), (0, 2)))
        self.assertEqual(falling_from(TOWN, (6, 6)), ((1, 1, 3, 3, 3, 3), (0, 2)))
        self.assertEqual(falling_from(TOWN, (0, 3)), ((2,), (0, 2)))
        self.assertEqual(falling_from(TOWN, (1, 2)), ((1,), (0, 2)))

    def test_unlike_sides(self):
        sides = (0, 1)
        town = (sides, (paired(sides, ((0, 1, 6),)), paired(sides, ((0, 1, 4),)), alone((2, 0))))
        self.assertEqual(rising_from(town, (0, 6)), ((3, 3), (2, 4)))
        self.assertEqual(rising_from(town, (1, 5)), ((3,), (2, 4)))
        self.assertEqual(rising_from(town, (2, 9)), ((2,) * 5, (2, 4)))
        self.assertEqual(falling_from(town, (6, 0)), ((), (6, 0)))
        self.assertEqual(falling_from(town, (9, 0)), ((1,) * 3, (6, 0)))

    def test_from_the_first_prices_and_from_those_on_the_way(self):
        for town in towns_of_sides(521, (3,)):
            for way, steps_from, steps, _ in BOTH:
                row, last = steps(town)
                prices = plain_first_prices(town, way)
                self.assertEqual(steps_from(town, prices), (row, last))
                for at, heap in enumerate(row):
                    prices = plain_stepped(town, prices, set_of(heap), way)
                    self.assertEqual(steps_from(town, prices), (row[at + 1:], last))

    def test_against_the_words_from_any_prices_ahead(self):
        source = chance(522)
        for town in towns_of_sides(523, (2, 6), 4, 3):
            for way, steps_from, _, ends in BOTH:
                last = ends(town)
                prices = prices_ahead(source, town, last, way, source.choice((1, 4)))
                told = steps_from(town, prices)
                self.assertTrue(all_told(told))
                self.assertEqual(told, plain_steps(town, prices, way))

    def test_where_they_end_and_in_how_many(self):
        source = chance(524)
        for town in towns_of_sides(525, (4, 200)):
            for way, steps_from, _, ends in BOTH:
                last = ends(town)
                for most in (3, 50):
                    prices = prices_ahead(source, town, last, way, most)
                    row, told = steps_from(town, prices)
                    self.assertEqual(told, last)
                    self.assertEqual(len(row), greatest_difference(prices, last))
                self.assertEqual(steps_from(town, last), ((), last))

    def test_by_name_again_and_unchanged(self):
        prices = (0, 1)
        self.assertEqual(rising_from(prices=prices, town=TOWN), ((2,), (0, 2)))
        self.assertEqual(falling_from(prices=(0, 3), town=TOWN), ((2,), (0, 2)))
        self.assertEqual(rising_from(TOWN, prices), ((2,), (0, 2)))
        self.assertEqual((prices, TOWN), ((0, 1), ((0, 0), ((0, 4, 6, 6), (0, 0, 2, 2)))))


class Refused(unittest.TestCase):

    def refusal(self, steps_from, town, prices):
        with self.assertRaises(WantError) as caught:
            steps_from(town, prices)
        return caught.exception

    def test_beyond(self):
        for steps_from, prices, thing in (
            (rising_from, (1, 2), 0), (rising_from, (0, 3), 1), (rising_from, (1, 3), 0), (rising_from, (9, 0), 0),
            (falling_from, (0, 1), 1), (falling_from, (5, 0), 1),
        ):
            caught = self.refusal(steps_from, TOWN, prices)
            self.assertIs(type(caught), Beyond)
            self.assertEqual(caught.thing, thing)

    def test_beyond_at_unlike_sides(self):
        sides = (0, 1)
        # Low are (2, 4), high (6, 0).
        town = (sides, (paired(sides, ((0, 1, 6),)), paired(sides, ((0, 1, 4),)), alone((2, 0))))
        for steps_from, prices, thing in (
            (rising_from, (3, 4), 0), (rising_from, (2, 3), 1), (rising_from, (3, 3), 0), (rising_from, (0, 0), 1),
            (falling_from, (5, 0), 0), (falling_from, (6, 1), 1), (falling_from, (5, 1), 0), (falling_from, (9, 9), 1),
        ):
            caught = self.refusal(steps_from, town, prices)
            self.assertIs(type(caught), Beyond)
            self.assertEqual(caught.thing, thing)

    def test_not_of_its_sides_comes_first(self):
        fine, broken = (0, 1, 1, 1), (0, 0, 0, 1)
        for town, hand in ((RING, 0), (((0, 0), (fine, broken)), 1), (((0, 1), (broken, broken, fine)), 2)):
            for price in (0, 1, 1000):
                for steps_from in (rising_from, falling_from):
                    caught = self.refusal(steps_from, town, (price,) * len(town[0]))
                    self.assertIs(type(caught), NotOfKind)
                    self.assertEqual(caught.hand, hand)

    def test_just_where_a_price_lies_beyond(self):
        source = chance(531)
        seen = []
        for town in towns_of_sides(532, (2, 9)):
            for way, steps_from, _, ends in BOTH:
                last = ends(town)
                prices = tuple(max(0, price + source.randint(-1, 1)) for price in last)
                beyond = []
                for thing, side in enumerate(town[0]):
                    if falls(side, way):
                        here = prices[thing] < greatest_price(town, thing)
                    else:
                        here = prices[thing] > least_price(town, thing)
                    if here:
                        beyond.append(thing)
                if beyond:
                    caught = self.refusal(steps_from, town, prices)
                    self.assertIs(type(caught), Beyond)
                    self.assertEqual(caught.thing, beyond[0])
                else:
                    self.assertEqual(steps_from(town, prices)[1], last)
                seen.append(beyond[0] if beyond else None)
        self.assertEqual(set(seen), {None, 0, 1, 2, 3, 4})


class Hands(unittest.TestCase):

    def towns(self, seed):
        """Towns of sides all 0 of two hands or more, with worths up to 1000."""
        source = chance(seed)
        towns = []
        for many in range(1, 6):
            for hands in range(2, 6):
                for most in (2, 9, 1000 // many):
                    wants = tuple(assigning(source, many, most) for _ in range(hands))
                    towns.append(((0,) * many, wants))
        return towns

    def test_one_hand_more_and_one_fewer(self):
        for town in self.towns(541):
            for hand in {0, len(town[1]) - 1}:
                without = (town[0], town[1][:hand] + town[1][hand + 1:])
                low, more_low = low_prices(without), low_prices(town)
                high, more_high = high_prices(without), high_prices(town)
                self.assertTrue(all(one <= other for one, other in zip(low, more_low)))
                self.assertTrue(all(one <= other for one, other in zip(high, more_high)))
                row, prices = rising_from(town, low)
                self.assertEqual((len(row), prices), (greatest_difference(low, more_low), more_low))
                row, prices = falling_from(without, more_high)
                self.assertEqual((len(row), prices), (greatest_difference(high, more_high), high))

    def test_written_out(self):
        wants = (some_of((3, 3), 1),) * 3
        two, three = ((0, 0), wants[:2]), ((0, 0), wants)
        self.assertEqual(low_prices(two), (0, 0))
        self.assertEqual(rising_from(three, (0, 0)), ((3, 3, 3), (3, 3)))
        one = ((0, 0), wants[:1])
        self.assertEqual((high_prices(two), high_prices(one)), ((3, 3), (0, 0)))
        self.assertEqual(falling_from(one, (3, 3)), ((3, 3, 3), (0, 0)))

    def test_of_unlike_sides_it_may_be_otherwise(self):
        sides = (0, 1)
        one = (sides, (paired(sides, ((0, 1, 6),)),))
        more = (sides, one[1] + (alone((2, 0)),))
        self.assertEqual((low_prices(one), low_prices(more)), ((0, 6), (2, 4)))


if __name__ == "__main__":
    unittest.main()
