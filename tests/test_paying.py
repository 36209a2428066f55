"""Point 23: who pays what; 3 (f): nobody more than its heap costs, and nobody gains by telling another want."""

import unittest

from tests.samples import (
    RING, all_dealings, all_wants, are_wholes, chance, number_of, plain_greatest, plain_sum, some_town, some_want,
    town_of_sides, towns_of_all_kinds, towns_of_sides,
)
from wantprices.bounds import high_prices, low_prices
from wantprices.finding import meeting
from wantprices.made import alone, some_of
from wantprices.meetings import are_meeting
from wantprices.paying import lost_without, pays, spared, told_otherwise
from wantprices.sums import best_dealing, greatest, greatest_without

# Hand 0 wants one thing, hand 1 the second one.
TOWN = ((0, 0), ((0, 4, 6, 6), (0, 0, 2, 2)))


def plain_heap(dealing, hand):
    return number_of(thing for thing, here in enumerate(dealing) if here == hand)


def plain_without(town, hand):
    """The greatest sum of all dealings by which that hand has nothing."""
    return max(plain_sum(town, dealing) for dealing in all_dealings(town) if hand not in dealing)


def plain_pays(town, dealing):
    best = plain_greatest(town)
    return tuple(
        want[plain_heap(dealing, hand)] - best + plain_without(town, hand) for hand, want in enumerate(town[1])
    )


def best_dealings(town):
    best = plain_greatest(town)
    return [dealing for dealing in all_dealings(town) if plain_sum(town, dealing) == best]


def small_towns(seed):
    """Towns of all kinds that have few dealings."""
    return [town for town in towns_of_all_kinds(seed) if (len(town[1]) + 1) ** len(town[0]) <= 300]


class Pays(unittest.TestCase):

    def test_the_second_worth(self):
        town = ((0,), ((0, 5), (0, 3), (0, 4)))
        self.assertEqual([lost_without(town, hand) for hand in range(3)], [1, 0, 0])
        self.assertEqual(pays(town, (0,)), (4, 0, 0))
        self.assertEqual(pays(((1,), ((0, 5),)), (0,)), (0,))
        self.assertEqual(lost_without(((1,), ((0, 5),)), 0), 5)

    def test_two_things(self):
        # Without hand 0 hand 1 has the thing 1: 2; without hand 1 hand 0 has it: 6.
        self.assertEqual([lost_without(TOWN, hand) for hand in range(2)], [4, 0])
        self.assertEqual(pays(TOWN, (0, 1)), (0, 2))
        self.assertEqual(pays(TOWN, (-1, 0)), (2, 0))
        self.assertEqual(pays(TOWN, (1, 0)), (2, 0))

    def test_where_no_prices_meet(self):
        # One has two things; without it another one has two.
        self.assertEqual(pays(RING, (0, 0, -1)), (1, 0, 0))
        self.assertEqual(pays(RING, (-1, 2, 2)), (0, 0, 1))
        strange = ((0, 0), ((0, 4, 6, 6), (0, 0, 0, 9)))
        self.assertEqual(pays(strange, (1, 1)), (0, 6))

    def test_five_things_and_hands(self):
        wants = tuple(some_of((10 - hand,) * 5, 1) for hand in range(5))
        self.assertEqual(pays(((0,) * 5, wants), (0, 1, 2, 3, 4)), (0, 0, 0, 0, 0))
        # Of four things each hand that has one pays what it would be worth to the last one.
        wants = tuple(some_of((10 - hand,) * 4, 1) for hand in range(5))
        self.assertEqual(pays(((0,) * 4, wants), (0, 1, 2, 3)), (6, 6, 6, 6, 0))
        wants = tuple(alone((10 - hand,) * 5) for hand in range(5))
        self.assertEqual(pays(((1, 0, 1, 0, 1), wants), (0,) * 5), (45, 0, 0, 0, 0))

    def test_against_the_words(self):
        for town in small_towns(441):
            for hand in range(len(town[1])):
                told = lost_without(town, hand)
                self.assertIs(type(told), int)
                self.assertEqual(told, plain_greatest(town) - plain_without(town, hand))
            for dealing in best_dealings(town)[:5]:
                told = pays(town, dealing)
                self.assertTrue(are_wholes(told))
                self.assertEqual(told, plain_pays(town, dealing))

    def test_five_and_five(self):
        for town in towns_of_all_kinds(442):
            dealing = best_dealing(town)
            told = pays(town, dealing)
            for hand, want in enumerate(town[1]):
                self.assertEqual(lost_without(town, hand), greatest(town) - greatest_without(town, hand))
                worth = want[plain_heap(dealing, hand)]
                self.assertEqual(told[hand], worth - lost_without(town, hand))
                # Nobody is paid, and nobody pays more than it has of it.
                self.assertTrue(0 <= told[hand] <= worth)

    def test_by_name_again_and_unchanged(self):
        dealing = (0, 1)
        self.assertEqual(lost_without(hand=0, town=TOWN), 4)
        self.assertEqual(pays(dealing=dealing, town=TOWN), (0, 2))
        self.assertEqual((dealing, TOWN), ((0, 1), ((0, 0), ((0, 4, 6, 6), (0, 0, 2, 2)))))


class Spared(unittest.TestCase):

    def test_written_out(self):
        town = ((0,), ((0, 5), (0, 3)))
        self.assertEqual(spared(town, 1, (3,), (0,)), (0, 0))
        self.assertEqual(spared(town, 1, (5,), (0,)), (2, 0))
        self.assertEqual(spared(town, 2, (9,), (0,)), (3, 0))
        self.assertEqual(spared(TOWN, 1, (0, 2), (0, 1)), (0, 0))
        self.assertEqual(spared(TOWN, 3, (0, 6), (-1, 0)), (0, 0))
        town = ((0, 0), (alone((5, 5)), alone((2, 3))))
        self.assertEqual(spared(town, 1, (4, 5), (0, 0)), (4, 0))
        far = 10 ** 50
        self.assertEqual(spared(town, far, (2 * far, 3 * far + 7), (0, 0)), (7, 0))

    def test_against_the_words(self):
        for town in small_towns(451):
            told = meeting(town)
            if told[0] == "prices":
                by, numbers = told[1:3]
                for dealing in best_dealings(town)[:5]:
                    here = spared(town, by, numbers, dealing)
                    self.assertTrue(are_wholes(here))
                    self.assertEqual(here, tuple(
                        sum(number for number, has in zip(numbers, dealing) if has == hand) - by * paid
                        for hand, paid in enumerate(plain_pays(town, dealing))
                    ))

    def test_never_below_nought(self):
        above = 0
        for town in towns_of_all_kinds(452):
            told = meeting(town)
            if told[0] == "prices":
                here = spared(town, *told[1:])
                self.assertGreaterEqual(min(here), 0)
                above += max(here) > 0
        for town in towns_of_sides(453, (3, 200)):
            for prices in (low_prices(town), high_prices(town)):
                here = spared(town, 1, prices, best_dealing(town))
                self.assertGreaterEqual(min(here), 0)
                above += max(here) > 0
        self.assertGreater(above, 30)

    def test_at_all_prices_that_meet_and_each_best_dealing(self):
        for town in [town for town in small_towns(454) if len(town[0]) == 2 and town[1][0][-1] < 5]:
            for one in range(6):
                for other in range(6):
                    if are_meeting(town, 1, (one, other)):
                        for dealing in best_dealings(town):
                            self.assertGreaterEqual(min(spared(town, 1, (one, other), dealing)), 0)

    def test_where_each_hand_wants_one_thing(self):
        source = chance(455)
        for many in range(1, 6):
            for hands in range(1, 6):
                for most in (2, 1000):
                    wants = [some_of(tuple(source.randint(0, most) for _ in range(many)), 1) for _ in range(hands)]
                    town = ((0,) * many, tuple(wants))
                    self.assertEqual(spared(town, 1, low_prices(town), best_dealing(town)), (0,) * hands)

    def test_by_name_again_and_unchanged(self):
        numbers, dealing = (0, 2), (0, 1)
        self.assertEqual(spared(dealing=dealing, numbers=numbers, by=1, town=TOWN), (0, 0))
        self.assertEqual((numbers, dealing), ((0, 2), (0, 1)))


class ToldOtherwise(unittest.TestCase):

    def test_one_thing(self):
        town = ((0,), ((0, 5), (0, 3)))
        # As it is it gains 2; telling less than 3 it has nothing; at 3 the first dealing gives it the thing still.
        self.assertEqual([told_otherwise(town, 0, (0, worth)) for worth in (0, 2, 3, 4, 5, 9)], [0, 0, 2, 2, 2, 2])
        # The other one has the thing when it tells more than 5, and pays 5 for what is worth 3 to it.
        self.assertEqual([told_otherwise(town, 1, (0, worth)) for worth in (0, 3, 5, 6, 9)], [0, 0, 0, -2, -2])

    def test_two_things(self):
        self.assertEqual(told_otherwise(TOWN, 0, (0, 0, 0, 0)), 0)
        self.assertEqual(told_otherwise(TOWN, 0, (0, 9, 9, 9)), 4)
        # Both things, of which one is worth nothing more to it, for the 2 that the other hand loses.
        self.assertEqual(told_otherwise(TOWN, 0, (0, 9, 9, 18)), 4)
        self.assertEqual(told_otherwise(TOWN, 1, (0, 0, 9, 9)), 0)
        self.assertEqual(told_otherwise(TOWN, 1, (0, 9, 9, 18)), -4)

    def test_its_own_want(self):
        for town in towns_of_all_kinds(461):
            for hand, want in enumerate(town[1]):
                told = told_otherwise(town, hand, want)
                self.assertIs(type(told), int)
                self.assertEqual(told, lost_without(town, hand))
                self.assertGreaterEqual(told, 0)

    def test_against_the_words(self):
        source = chance(462)
        for town in small_towns(463):
            many = len(town[0])
            for hand, own in enumerate(town[1]):
                want = some_want(source, many, source.choice((2, 1000)))
                other = (town[0], town[1][:hand] + (want,) + town[1][hand + 1:])
                dealing = best_dealings(other)[0]
                gain = own[plain_heap(dealing, hand)] - plain_pays(other, dealing)[hand]
                self.assertEqual(told_otherwise(town, hand, want), gain)

    def test_nobody_gains_by_another_want(self):
        source = chance(464)
        less = 0
        for town in towns_of_all_kinds(465):
            for hand in range(len(town[1])):
                most = source.choice((1, 3, 1000))
                for want in (some_want(source, len(town[0]), most), source.choice(town[1])):
                    told = told_otherwise(town, hand, want)
                    self.assertLessEqual(told, lost_without(town, hand))
                    less += told < lost_without(town, hand)
        self.assertGreater(less, 100)

    def test_nobody_gains_by_any_small_want(self):
        source = chance(466)
        wants = all_wants(2, 3)
        for make in (some_town, town_of_sides):
            for hands in (1, 2, 3):
                town = make(source, 2, hands, 2)
                for hand in range(hands):
                    told = [told_otherwise(town, hand, want) for want in wants]
                    self.assertLessEqual(max(told), told_otherwise(town, hand, town[1][hand]))

    def test_by_name_again_and_unchanged(self):
        want = (0, 9, 9, 18)
        self.assertEqual(told_otherwise(want=want, hand=1, town=TOWN), -4)
        self.assertEqual(told_otherwise(TOWN, 1, want), -4)
        self.assertEqual((want, TOWN), ((0, 9, 9, 18), ((0, 0), ((0, 4, 6, 6), (0, 0, 2, 2)))))


if __name__ == "__main__":
    unittest.main()
