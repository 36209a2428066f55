"""Point 9: taking one by one; 3 (c): of wants of their sides it leads to a best heap."""

import unittest
from itertools import product

from tests.samples import (
    all_prices_kinds, all_wants, are_wholes, assigning, chance, number_of, some_want, with_sides,
)
from wantprices.kinds import breaking
from wantprices.made import alone, joined, paired, some_of
from wantprices.taking import one_by_one
from wantprices.wanting import best_heaps


def plain_one_by_one(want, sides, prices):
    def worth(things):
        return want[number_of(things)] - sum(prices[thing] for thing in things)

    things = {thing for thing, side in enumerate(sides) if side == 1}
    left, row = set(range(len(sides))), []
    while True:
        ranks = sorted((-worth(things ^ {thing}), thing) for thing in left)
        if not ranks or -ranks[0][0] <= worth(things):
            return (number_of(things), tuple(row))
        thing = ranks[0][1]
        things, left = things ^ {thing}, left - {thing}
        row.append(thing)


class OneByOne(unittest.TestCase):

    def test_written_out(self):
        self.assertEqual(one_by_one((0, 5, 6, 9), (0, 0), (1, 1)), (3, (1, 0)))
        self.assertEqual(one_by_one((0, 5, 6, 9), (0, 0), (1, 5)), (1, (0,)))
        self.assertEqual(one_by_one((0, 3, 3, 6), (1, 1), (4, 5)), (0, (1, 0)))
        self.assertEqual(one_by_one((0, 0, 0, 8), (0, 1), (3, 4)), (3, (0,)))

    def test_no_exchange_makes_the_gain_greater(self):
        self.assertEqual(one_by_one((0, 5, 5, 5), (0, 0), (5, 5)), (0, ()))
        self.assertEqual(one_by_one((0, 5, 5, 5), (0, 0), (9, 9)), (0, ()))
        self.assertEqual(one_by_one((0, 5, 5, 10), (1, 1), (5, 5)), (3, ()))
        self.assertEqual(one_by_one((0, 5, 5, 10), (0, 1), (5, 5)), (2, ()))
        for many in range(1, 6):
            for sides in product((0, 1), repeat=many):
                start = number_of(thing for thing, side in enumerate(sides) if side)
                self.assertEqual(one_by_one((0,) * 2 ** many, sides, (0,) * many), (start, ()))

    def test_of_several_the_least(self):
        self.assertEqual(one_by_one((0, 5, 5, 5), (0, 0), (1, 1)), (1, (0,)))
        self.assertEqual(one_by_one(alone((3, 3, 3)), (0, 0, 0), (1, 1, 1)), (7, (0, 1, 2)))
        self.assertEqual(one_by_one(alone((3, 3, 3)), (1, 1, 1), (4, 4, 4)), (0, (0, 1, 2)))
        self.assertEqual(one_by_one(some_of((2, 4, 4, 4), 2), (0,) * 4, (0,) * 4), (6, (1, 2)))
        self.assertEqual(one_by_one(alone((1, 9, 1)), (1, 0, 0), (5, 5, 5)), (2, (0, 1)))

    def test_nothing_is_exchanged_twice(self):
        want = (0, 11, 1, 13, 1, 11, 7, 15)
        self.assertEqual(one_by_one(want, (0, 0, 0), (10, 1, 1)), (7, (0, 1, 2)))
        self.assertEqual(best_heaps(want, (10, 1, 1)), (6,))

    def test_against_the_words(self):
        source = chance(31)
        for many in range(1, 6):
            for sides in product((0, 1), repeat=many):
                for most in (2, 1000):
                    want = some_want(source, many, most)
                    for prices in all_prices_kinds(source, many):
                        told = one_by_one(want, sides, prices)
                        self.assertEqual(told, plain_one_by_one(want, sides, prices))
                        self.assertIs(type(told), tuple)
                        self.assertIs(type(told[0]), int)
                        self.assertTrue(are_wholes(told[1]))

    def test_a_best_heap_of_wants_of_their_sides(self):
        source = chance(32)
        for many in range(1, 6):
            for sides in product((0, 1), repeat=many):
                for most in (2, 1000):
                    want = with_sides(assigning(source, many, most), sides)
                    pairs = [(i, j) for i in range(many) for j in range(many) if sides[i] < sides[j]]
                    rows = tuple((i, j, source.randint(0, most)) for i, j in pairs)
                    for made in (want, paired(sides, rows), joined(want, paired(sides, rows))):
                        self.assertIsNone(breaking(made, sides))
                        for prices in all_prices_kinds(source, many):
                            self.assertIn(one_by_one(made, sides, prices)[0], best_heaps(made, prices))

    def test_a_best_heap_of_all_small_wants_of_their_sides(self):
        for many, most in ((1, 3), (2, 2)):
            for want in all_wants(many, most):
                for sides in product((0, 1), repeat=many):
                    if breaking(want, sides) is None:
                        for prices in product(range(-1, most + 2), repeat=many):
                            self.assertIn(one_by_one(want, sides, prices)[0], best_heaps(want, prices))

    def test_by_name_again_and_unchanged(self):
        want, sides, prices = (0, 5, 6, 9), (0, 0), (1, 1)
        self.assertEqual(one_by_one(want=want, sides=sides, prices=prices), (3, (1, 0)))
        self.assertEqual(one_by_one(prices=prices, want=want, sides=sides), one_by_one(want, sides, prices))
        self.assertEqual((want, sides, prices), ((0, 5, 6, 9), (0, 0), (1, 1)))


if __name__ == "__main__":
    unittest.main()
