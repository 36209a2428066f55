"""Point 13: dealings, what each hand has by them, and their sums."""

import unittest

from tests.samples import (
    all_dealings, are_wholes, chance, nested, number_of, plain_sum, some_town, spoiled, strange_things,
)
from wantprices.dealings import heaps_of, is_dealing, left_of, sum_of

TOWN = ((0, 1, 0), ((0, 1, 2, 4, 3, 5, 6, 9), (0, 10, 20, 40, 30, 50, 60, 90)))


def some_towns(seed):
    source = chance(seed)
    return [some_town(source, many, hands) for many in range(1, 6) for hands in range(1, 6)]


class IsDealing(unittest.TestCase):

    def test_all_dealings_of_one_to_five(self):
        for town in some_towns(91):
            for dealing in all_dealings(town)[::7]:
                self.assertIs(is_dealing(town, dealing), True)
            self.assertIs(is_dealing(town, (-1,) * len(town[0])), True)
            self.assertIs(is_dealing(town, (len(town[1]) - 1,) * len(town[0])), True)

    def test_hands_that_are_not_there(self):
        for town in some_towns(92):
            many, hands = len(town[0]), len(town[1])
            for at in range(many):
                for hand in (-2, hands, hands + 1, -10 ** 30, 10 ** 30):
                    for other in (-1, 0):
                        dealing = (other,) * at + (hand,) + (other,) * (many - at - 1)
                        self.assertIs(is_dealing(town, dealing), False)

    def test_another_count_of_things(self):
        for town in some_towns(93):
            for many in range(8):
                for hand in (-1, 0):
                    self.assertIs(is_dealing(town, (hand,) * many), many == len(town[0]))

    def test_truths_and_lists_are_none(self):
        self.assertIs(is_dealing(TOWN, (0, 1, -1)), True)
        for worse in ((0, True, -1), (False, 1, -1), [0, 1, -1], ((0,), 1, -1), "01-", (0, 1, None), (0, 1, "-")):
            self.assertIs(is_dealing(TOWN, worse), False)

    def test_anything_is_answered(self):
        for strange in strange_things():
            self.assertIs(is_dealing(TOWN, strange), False)
        for town in some_towns(94)[::3]:
            many, hands = len(town[0]), len(town[1])
            for worse in spoiled((hands - 1,) * many):
                # Among the strange things -1 alone may stand in a dealing.
                fits = are_wholes(worse) and len(worse) == many and set(worse) <= {-1, hands - 1}
                self.assertIs(is_dealing(town, worse), fits, worse)

    def test_deep_nests(self):
        deep = nested(29, 0, lambda thing: (thing,))
        self.assertIs(is_dealing(((0,), ((0, 1),)), (deep,)), False)
        self.assertIs(is_dealing(TOWN, (0, 0, deep)), False)

    def test_by_name_and_unchanged(self):
        kept = [0, 1, -1]
        self.assertIs(is_dealing(town=TOWN, thing=(0, 1, -1)), True)
        self.assertIs(is_dealing(thing=kept, town=TOWN), False)
        self.assertEqual(kept, [0, 1, -1])


class Dealt(unittest.TestCase):

    def test_written_out(self):
        self.assertEqual(heaps_of(TOWN, (1, 0, 1)), (2, 5))
        self.assertEqual(left_of(TOWN, (1, 0, 1)), 0)
        self.assertEqual(sum_of(TOWN, (1, 0, 1)), 52)
        self.assertEqual(heaps_of(TOWN, (-1, 1, -1)), (0, 2))
        self.assertEqual(left_of(TOWN, (-1, 1, -1)), 5)
        self.assertEqual(sum_of(TOWN, (-1, 1, -1)), 20)
        self.assertEqual(sum_of(TOWN, (0, 0, 0)), 9)
        self.assertEqual(sum_of(TOWN, (1, 1, 1)), 90)

    def test_all_left(self):
        for town in some_towns(95):
            dealing = (-1,) * len(town[0])
            self.assertEqual(heaps_of(town, dealing), (0,) * len(town[1]))
            self.assertEqual(left_of(town, dealing), 2 ** len(town[0]) - 1)
            self.assertEqual(sum_of(town, dealing), 0)

    def test_all_to_one_hand(self):
        for town in some_towns(96):
            for hand, want in enumerate(town[1]):
                dealing = (hand,) * len(town[0])
                self.assertEqual(heaps_of(town, dealing)[hand], len(want) - 1)
                self.assertEqual(left_of(town, dealing), 0)
                self.assertEqual(sum_of(town, dealing), want[-1])

    def test_against_the_words(self):
        for town in some_towns(97):
            for dealing in all_dealings(town)[::11]:
                heaps = heaps_of(town, dealing)
                self.assertTrue(are_wholes(heaps))
                self.assertEqual(heaps, tuple(
                    number_of(thing for thing, here in enumerate(dealing) if here == hand)
                    for hand in range(len(town[1]))
                ))
                left = left_of(town, dealing)
                self.assertIs(type(left), int)
                self.assertEqual(left, number_of(thing for thing, here in enumerate(dealing) if here == -1))
                self.assertEqual(sum(heaps) + left, 2 ** len(town[0]) - 1)
                told = sum_of(town, dealing)
                self.assertIs(type(told), int)
                self.assertEqual(told, plain_sum(town, dealing))

    def test_by_name_again_and_unchanged(self):
        dealing = (1, 0, 1)
        self.assertEqual(heaps_of(dealing=dealing, town=TOWN), heaps_of(TOWN, dealing))
        self.assertEqual(left_of(dealing=dealing, town=TOWN), left_of(TOWN, dealing))
        self.assertEqual(sum_of(dealing=dealing, town=TOWN), sum_of(TOWN, dealing))
        self.assertEqual(dealing, (1, 0, 1))


if __name__ == "__main__":
    unittest.main()
