"""Point 21: least and greatest prices, low and high ones; 3 (d): what they bound."""

import unittest
from itertools import product

from tests.samples import (
    RING, alone_town, are_wholes, chance, plain_greatest, plain_meets, some_sides, some_town,
    towns_of_all_kinds, towns_of_sides,
)
from wantprices.bounds import greatest_price, high_prices, least_price, low_prices
from wantprices.errors import NotOfKind, WantError
from wantprices.finding import meeting
from wantprices.kinds import first_strange
from wantprices.made import alone, paired, some_of
from wantprices.meetings import are_meeting
from wantprices.sums import best_dealing, greatest, greatest_of, greatest_with_two

# Hand 0 wants one thing, hand 1 the second one.
TOWN = ((0, 0), ((0, 4, 6, 6), (0, 0, 2, 2)))
# Hand 0 wants one of the two, hand 1 wants both or none: not of its sides.
STRANGE = ((0, 0), ((0, 4, 6, 6), (0, 0, 0, 9)))


def all_least(town):
    return tuple(least_price(town, thing) for thing in range(len(town[0])))


def all_greatest(town):
    return tuple(greatest_price(town, thing) for thing in range(len(town[0])))


def all_meeting(town, most):
    """All whole prices that meet, up to the most."""
    dealing = best_dealing(town)
    return [
        prices for prices in product(range(most + 1), repeat=len(town[0])) if plain_meets(town, 1, prices, dealing)
    ]


class Prices(unittest.TestCase):

    def test_one_thing(self):
        self.assertEqual(least_price(((0,), ((0, 5), (0, 3))), 0), 3)
        self.assertEqual(greatest_price(((0,), ((0, 5), (0, 3))), 0), 5)
        self.assertEqual(least_price(((1,), ((0, 5),)), 0), 0)
        self.assertEqual(greatest_price(((1,), ((0, 5),)), 0), 5)
        self.assertEqual(least_price(((1,), ((0, 4), (0, 7), (0, 9), (0, 7), (0, 1))), 0), 7)
        self.assertEqual(greatest_price(((1,), ((0, 4), (0, 7), (0, 9), (0, 7), (0, 1))), 0), 9)

    def test_two_things(self):
        self.assertEqual((all_least(TOWN), all_greatest(TOWN)), ((0, 2), (0, 2)))
        # 13 and 15 with two, 6 and 4 without, 9 as it is.
        self.assertEqual((all_least(STRANGE), all_greatest(STRANGE)), ((4, 6), (3, 5)))

    def test_by_two_sums(self):
        for town in towns_of_all_kinds(401):
            many = len(town[0])
            for thing in range(many):
                least, most = least_price(town, thing), greatest_price(town, thing)
                self.assertTrue(are_wholes((least, most)))
                self.assertEqual(least, greatest_with_two(town, thing) - greatest(town))
                self.assertEqual(most, greatest(town) - greatest_of(town, 2 ** many - 1 - 2 ** thing))
                self.assertGreaterEqual(least, 0)
                self.assertGreaterEqual(most, 0)

    def test_what_one_thing_less_loses(self):
        for town in towns_of_all_kinds(402, 3, 3):
            for thing in range(len(town[0])):
                without = (town[0], tuple(
                    tuple(want[heap & ~(1 << thing)] for heap in range(len(want))) for want in town[1]
                ))
                self.assertEqual(greatest_price(town, thing), plain_greatest(town) - plain_greatest(without))

    def test_each_thing_by_itself(self):
        source = chance(403)
        for many in range(1, 6):
            for hands in range(1, 6):
                town = alone_town(source, some_sides(source, many), hands)
                for thing in range(many):
                    worths = sorted([want[2 ** thing] for want in town[1]] + [0])
                    self.assertEqual(least_price(town, thing), worths[-2])
                    self.assertEqual(greatest_price(town, thing), worths[-1])

    def test_of_towns_that_are_not_of_their_sides_too(self):
        self.assertEqual((all_least(RING), all_greatest(RING)), ((1, 1, 1), (0, 0, 0)))

    def test_what_prices_that_meet_are_bound_by(self):
        seen = []
        for town in towns_of_all_kinds(404):
            told = meeting(town)
            if told[0] == "prices":
                by, numbers = told[1:3]
                for thing, number in enumerate(numbers):
                    self.assertLessEqual(by * least_price(town, thing), number)
                    self.assertLessEqual(number, by * greatest_price(town, thing))
                seen.append(first_strange(town) is None)
        self.assertGreater(seen.count(True), 10)
        self.assertGreater(seen.count(False), 10)

    def test_all_prices_in_parts_that_meet(self):
        for town in towns_of_sides(405, (2,), 2, 3):
            least, most = all_least(town), all_greatest(town)
            for by in (2, 3):
                for numbers in product(range(by * max(most) + 2), repeat=len(town[0])):
                    if are_meeting(town, by, numbers):
                        for thing, number in enumerate(numbers):
                            self.assertTrue(by * least[thing] <= number <= by * most[thing])

    def test_by_name_again_and_unchanged(self):
        self.assertEqual(least_price(thing=1, town=TOWN), 2)
        self.assertEqual(greatest_price(thing=1, town=TOWN), 2)
        self.assertEqual(TOWN, ((0, 0), ((0, 4, 6, 6), (0, 0, 2, 2))))


class LowAndHigh(unittest.TestCase):

    def test_written_out(self):
        wants = ((0, 5), (0, 3))
        self.assertEqual((low_prices(((0,), wants)), high_prices(((0,), wants))), ((3,), (5,)))
        self.assertEqual((low_prices(((1,), wants)), high_prices(((1,), wants))), ((5,), (3,)))
        self.assertEqual((low_prices(TOWN), high_prices(TOWN)), ((0, 2), (0, 2)))
        town = ((0, 1), (paired((0, 1), ((0, 1, 6),)), paired((0, 1), ((0, 1, 4),)), alone((2, 0))))
        self.assertEqual((low_prices(town), high_prices(town)), ((2, 4), (6, 0)))
        five = ((0,) * 5, (some_of((9, 9, 9, 9, 9), 1),) * 5)
        self.assertEqual((low_prices(five), high_prices(five)), ((0,) * 5, (9,) * 5))
        self.assertEqual(low_prices((five[0], five[1][:4])), (0,) * 5)
        self.assertEqual(high_prices((five[0], five[1][:4])), (0,) * 5)

    def test_by_the_sides(self):
        for town in towns_of_sides(411, (2, 200)):
            least, most, sides = all_least(town), all_greatest(town), town[0]
            low, high = low_prices(town), high_prices(town)
            self.assertTrue(are_wholes(low) and are_wholes(high))
            self.assertEqual(low, tuple(most[t] if sides[t] == 1 else least[t] for t in range(len(sides))))
            self.assertEqual(high, tuple(least[t] if sides[t] == 1 else most[t] for t in range(len(sides))))
            for prices in (low, high):
                self.assertIs(are_meeting(town, 1, prices), True)
                self.assertTrue(plain_meets(town, 1, prices, best_dealing(town)))

    def test_the_ends_of_all_prices_that_meet(self):
        unlike = 0
        for town in towns_of_sides(412, (2, 3), 3, 3):
            if max(all_greatest(town)) > 8:
                continue
            prices = all_meeting(town, max(all_greatest(town)) + 1)
            self.assertEqual(all_least(town), tuple(min(column) for column in zip(*prices)))
            self.assertEqual(all_greatest(town), tuple(max(column) for column in zip(*prices)))
            self.assertIn(low_prices(town), prices)
            self.assertIn(high_prices(town), prices)
            unlike += low_prices(town) != high_prices(town)
        self.assertGreater(unlike, 10)

    def test_refused(self):
        fine, broken = (0, 1, 1, 1), (0, 0, 0, 1)
        for prices in (low_prices, high_prices):
            for town, hand in (
                (RING, 0), (STRANGE, 1), (((0, 0), (fine, broken)), 1), (((0, 1), (broken, fine)), 1),
                (((1, 1), (fine, fine, fine, fine, broken)), 4), (((0, 0), (broken, broken)), 0),
            ):
                with self.assertRaises(WantError) as caught:
                    prices(town)
                self.assertIs(type(caught.exception), NotOfKind)
                self.assertEqual(caught.exception.hand, hand)

    def test_refused_just_where_there_is_a_strange_hand(self):
        source = chance(413)
        seen = []
        for _ in range(60):
            town = some_town(source, source.randint(1, 3), source.randint(1, 5), 2)
            strange = first_strange(town)
            seen.append(strange)
            for prices in (low_prices, high_prices):
                if strange is None:
                    self.assertIs(are_meeting(town, 1, prices(town)), True)
                else:
                    with self.assertRaises(NotOfKind) as caught:
                        prices(town)
                    self.assertEqual(caught.exception.hand, strange)
        self.assertGreater(len(set(seen)), 3)

    def test_sides_do_not_move_least_and_greatest(self):
        for town in towns_of_all_kinds(414, 3, 2):
            other = (tuple(1 - side for side in town[0]), town[1])
            self.assertEqual((all_least(town), all_greatest(town)), (all_least(other), all_greatest(other)))

    def test_what_is_left_costs_nothing(self):
        for town in towns_of_sides(415, (3,), 4, 3):
            for thing, hand in enumerate(best_dealing(town)):
                if hand == -1:
                    self.assertEqual((low_prices(town)[thing], high_prices(town)[thing]), (0, 0))

    def test_by_name_again_and_unchanged(self):
        self.assertEqual(low_prices(town=TOWN), low_prices(TOWN))
        self.assertEqual(high_prices(town=TOWN), high_prices(TOWN))


if __name__ == "__main__":
    unittest.main()
