"""Point 14: the greatest sums, and the first dealing of the greatest one."""

import unittest

from tests.samples import (
    all_dealings, are_wholes, chance, number_of, parts_of, plain_sum, set_of, some_town, town_of_sides,
)
from wantprices.dealings import is_dealing, sum_of
from wantprices.made import alone, some_of
from wantprices.sums import best_dealing, greatest, greatest_of, greatest_with_two, greatest_without

# Hand 0 wants one of the two, hand 1 wants both or none.
TOWN = ((0, 0), ((0, 4, 6, 6), (0, 0, 0, 9)))


def some_towns(seed):
    """Towns of all sizes, small worths among them, so that many dealings are of the greatest sum."""
    source = chance(seed)
    towns = []
    for many in range(1, 6):
        for hands in range(1, 6):
            most = source.choice((1, 3, 1000))
            towns.append(source.choice((some_town, town_of_sides))(source, many, hands, most))
    return towns


def small_towns(seed):
    """Of those the ones that have few dealings."""
    return [town for town in some_towns(seed) if (len(town[1]) + 1) ** len(town[0]) <= 1300]


def plain_with_two(town, thing):
    """The greatest sum by dealings and one hand, or none, that has the second one of the thing."""
    sums = []
    for dealing in all_dealings(town):
        heaps = [{at for at, here in enumerate(dealing) if here == hand} for hand in range(len(town[1]))]
        told = [want[number_of(heap)] for want, heap in zip(town[1], heaps)]
        sums.append(sum(told))
        for hand, want in enumerate(town[1]):
            sums.append(sum(told) - told[hand] + want[number_of(heaps[hand] | {thing})])
    return max(sums)


class Greatest(unittest.TestCase):

    def test_written_out(self):
        self.assertEqual(greatest(TOWN), 9)
        self.assertEqual(best_dealing(TOWN), (1, 1))
        self.assertEqual(greatest(((0,), ((0, 7),))), 7)
        self.assertEqual(greatest(((1,), ((0, 7), (0, 8), (0, 8)))), 8)
        self.assertEqual(best_dealing(((1,), ((0, 7), (0, 8), (0, 8)))), (1,))
        town = ((0, 0, 0), (some_of((5, 4, 3), 1), some_of((5, 4, 3), 1)))
        self.assertEqual((greatest(town), best_dealing(town)), (9, (0, 1, -1)))

    def test_worth_nothing(self):
        for many in range(1, 6):
            for hands in range(1, 6):
                town = ((0,) * many, ((0,) * 2 ** many,) * hands)
                self.assertEqual(greatest(town), 0)
                self.assertEqual(best_dealing(town), (-1,) * many)

    def test_all_alike(self):
        for many in range(1, 6):
            for hands in range(1, 6):
                town = ((1,) * many, (alone((3,) * many),) * hands)
                self.assertEqual(greatest(town), 3 * many)
                self.assertEqual(best_dealing(town), (0,) * many)
                one_each = ((0,) * many, (some_of((3,) * many, 1),) * hands)
                # As few things as do, the last ones, each to another hand, as the dealing rises.
                few = min(many, hands)
                self.assertEqual(greatest(one_each), 3 * few)
                self.assertEqual(best_dealing(one_each), (-1,) * (many - few) + tuple(range(few)))

    def test_against_all_dealings(self):
        for town in some_towns(101):
            dealings = all_dealings(town)
            sums = [plain_sum(town, dealing) for dealing in dealings]
            told = greatest(town)
            self.assertIs(type(told), int)
            self.assertEqual(told, max(sums))
            dealing = best_dealing(town)
            self.assertTrue(are_wholes(dealing))
            self.assertEqual(dealing, dealings[sums.index(max(sums))])
            self.assertIs(is_dealing(town, dealing), True)
            self.assertEqual(sum_of(town, dealing), told)

    def test_more_small_towns_against_all_dealings(self):
        for seed in range(102, 110):
            for town in small_towns(seed):
                told = best_dealing(town)
                sums = {dealing: plain_sum(town, dealing) for dealing in all_dealings(town)}
                self.assertEqual(greatest(town), max(sums.values()))
                self.assertEqual(told, min(dealing for dealing in sums if sums[dealing] == max(sums.values())))

    def test_by_name_again_and_unchanged(self):
        self.assertEqual(greatest(town=TOWN), greatest(TOWN))
        self.assertEqual(best_dealing(town=TOWN), best_dealing(TOWN))
        self.assertEqual(TOWN, ((0, 0), ((0, 4, 6, 6), (0, 0, 0, 9))))


class GreatestOf(unittest.TestCase):

    def test_written_out(self):
        self.assertEqual([greatest_of(TOWN, heap) for heap in range(4)], [0, 4, 6, 9])

    def test_ends(self):
        for town in some_towns(111):
            self.assertEqual(greatest_of(town, 0), 0)
            self.assertEqual(greatest_of(town, 2 ** len(town[0]) - 1), greatest(town))

    def test_one_hand_alone(self):
        source = chance(112)
        for many in range(1, 6):
            town = some_town(source, many, 1)
            for heap in range(2 ** many):
                self.assertEqual(greatest_of(town, heap), town[1][0][heap])

    def test_against_all_dealings(self):
        for town in small_towns(113):
            sums = [(dealing, plain_sum(town, dealing)) for dealing in all_dealings(town)]
            for heap in range(2 ** len(town[0])):
                beside = set(range(len(town[0]))) - set_of(heap)
                told = greatest_of(town, heap)
                self.assertIs(type(told), int)
                self.assertEqual(told, max(
                    here for dealing, here in sums if all(dealing[thing] == -1 for thing in beside)
                ))

    def test_five_things_and_hands(self):
        town = some_town(chance(114), 5, 5)
        for heap in (5, 19, 30):
            # All that is left is worth nothing: so it is as if no heap were worth more than its part in this one.
            smaller = (town[0], tuple(
                tuple(want[number_of(part & set_of(heap))] for part in map(set_of, range(32))) for want in town[1]
            ))
            self.assertEqual(greatest_of(town, heap), max(plain_sum(smaller, deal) for deal in all_dealings(town)))

    def test_by_name(self):
        self.assertEqual(greatest_of(heap=1, town=TOWN), 4)


class GreatestWithout(unittest.TestCase):

    def test_written_out(self):
        self.assertEqual(greatest_without(TOWN, 0), 9)
        self.assertEqual(greatest_without(TOWN, 1), 6)

    def test_the_only_hand(self):
        source = chance(121)
        for many in range(1, 6):
            self.assertEqual(greatest_without(some_town(source, many, 1), 0), 0)

    def test_against_all_dealings(self):
        for town in some_towns(122):
            sums = [(dealing, plain_sum(town, dealing)) for dealing in all_dealings(town)]
            for hand in range(len(town[1])):
                told = greatest_without(town, hand)
                self.assertIs(type(told), int)
                self.assertEqual(told, max(here for dealing, here in sums if hand not in dealing))

    def test_by_name(self):
        self.assertEqual(greatest_without(hand=1, town=TOWN), 6)


class GreatestWithTwo(unittest.TestCase):

    def test_written_out(self):
        # With two of thing 0 hand 0 may have one of them beside hand 1, who has both things.
        self.assertEqual(greatest_with_two(TOWN, 0), 13)
        self.assertEqual(greatest_with_two(TOWN, 1), 15)

    def test_one_thing_goes_to_the_two_that_want_it_most(self):
        self.assertEqual(greatest_with_two(((0,), ((0, 7), (0, 9), (0, 8))), 0), 17)
        self.assertEqual(greatest_with_two(((1,), ((0, 7), (0, 9))), 0), 16)
        self.assertEqual(greatest_with_two(((1,), ((0, 7), (0, 0))), 0), 7)

    def test_the_only_hand_has_one_for_nothing(self):
        source = chance(131)
        for many in range(1, 6):
            town = some_town(source, many, 1)
            for thing in range(many):
                self.assertEqual(greatest_with_two(town, thing), greatest(town))
        self.assertEqual(greatest_with_two(((0, 0), (alone((5, 3)), (0, 0, 0, 0))), 0), 8)

    def test_against_all_dealings(self):
        for seed in (132, 133, 134):
            for town in small_towns(seed):
                for thing in range(len(town[0])):
                    told = greatest_with_two(town, thing)
                    self.assertIs(type(told), int)
                    self.assertEqual(told, plain_with_two(town, thing))

    def test_five_things_and_hands(self):
        source = chance(135)
        for town in (some_town(source, 5, 5), town_of_sides(source, 5, 5, 9)):
            self.assertEqual(greatest_with_two(town, 2), plain_with_two(town, 2))

    def test_by_name(self):
        self.assertEqual(greatest_with_two(thing=1, town=TOWN), 15)


class Apart(unittest.TestCase):

    def test_no_heap_is_worth_more_than_all(self):
        for town in some_towns(141):
            for heap in range(2 ** len(town[0])):
                for part in parts_of(set_of(heap)):
                    self.assertLessEqual(greatest_of(town, number_of(part)), greatest_of(town, heap))
            for hand in range(len(town[1])):
                self.assertLessEqual(greatest_without(town, hand), greatest(town))
            for thing in range(len(town[0])):
                self.assertGreaterEqual(greatest_with_two(town, thing), greatest(town))


if __name__ == "__main__":
    unittest.main()
