"""Point 8: gains and best heaps."""

import unittest

from tests.samples import all_prices_kinds, are_wholes, chance, set_of, some_want
from wantprices.made import alone, some_of
from wantprices.wanting import best_heaps, gain, greatest_gain


def plain_gains(want, prices):
    return [worth - sum(prices[thing] for thing in set_of(heap)) for heap, worth in enumerate(want)]


class Wanting(unittest.TestCase):

    def test_written_out(self):
        want = (0, 5, 4, 7)
        self.assertEqual([gain(want, (2, 3), heap) for heap in range(4)], [0, 3, 1, 2])
        self.assertEqual(greatest_gain(want, (2, 3)), 3)
        self.assertEqual(best_heaps(want, (2, 3)), (1,))

    def test_against_all_heaps(self):
        source = chance(21)
        for many in range(1, 6):
            for most in (0, 2, 1000):
                want = some_want(source, many, most)
                for prices in all_prices_kinds(source, many):
                    gains = plain_gains(want, prices)
                    for heap in range(2 ** many):
                        told = gain(want, prices, heap)
                        self.assertIs(type(told), int)
                        self.assertEqual(told, gains[heap])
                    self.assertEqual(greatest_gain(want, prices), max(gains))
                    best = best_heaps(want, prices)
                    self.assertTrue(are_wholes(best))
                    self.assertEqual(best, tuple(heap for heap in range(2 ** many) if gains[heap] == max(gains)))

    def test_nought_gains_nought(self):
        for many in range(1, 6):
            self.assertEqual(gain((0,) + (9,) * (2 ** many - 1), (-10 ** 6,) * many, 0), 0)

    def test_several_alike(self):
        self.assertEqual(best_heaps((0, 3, 3, 3), (1, 1)), (1, 2))
        self.assertEqual(best_heaps((0, 3, 3, 6), (3, 3)), (0, 1, 2, 3))
        self.assertEqual(best_heaps(some_of((4, 4, 4), 2), (1, 1, 1)), (3, 5, 6))
        for many in range(1, 6):
            self.assertEqual(best_heaps((0,) * 2 ** many, (0,) * many), tuple(range(2 ** many)))

    def test_nought_alone_is_best(self):
        for many in range(1, 6):
            want = alone((7,) * many)
            self.assertEqual(best_heaps(want, (8,) * many), (0,))
            self.assertEqual(greatest_gain(want, (8,) * many), 0)

    def test_prices_below_nought(self):
        for many in range(1, 6):
            want = (0,) * 2 ** many
            self.assertEqual(best_heaps(want, (-1,) * many), (2 ** many - 1,))
            self.assertEqual(greatest_gain(want, (-10 ** 6,) * many), many * 10 ** 6)

    def test_by_name_again_and_unchanged(self):
        want, prices = (0, 5, 4, 7), (2, 3)
        self.assertEqual(gain(want=want, prices=prices, heap=3), gain(want, prices, 3))
        self.assertEqual(gain(heap=1, prices=prices, want=want), 3)
        self.assertEqual(greatest_gain(prices=prices, want=want), greatest_gain(want, prices))
        self.assertEqual(best_heaps(prices=prices, want=want), best_heaps(want, prices))
        self.assertEqual((want, prices), ((0, 5, 4, 7), (2, 3)))


if __name__ == "__main__":
    unittest.main()
