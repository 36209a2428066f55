"""Point 4: heaps."""

import unittest
from itertools import permutations

from tests.samples import are_wholes, number_of, parts_of, set_of
from wantprices.heaps import (
    exchanged, has, heap_of, heap_of_side, is_within, less, put_in, taken_out, things_in,
)


class ThingsIn(unittest.TestCase):

    def test_written_out(self):
        self.assertEqual(things_in(0), ())
        self.assertEqual(things_in(1), (0,))
        self.assertEqual(things_in(2), (1,))
        self.assertEqual(things_in(6), (1, 2))
        self.assertEqual(things_in(21), (0, 2, 4))
        self.assertEqual(things_in(31), (0, 1, 2, 3, 4))

    def test_each_heap_tells_its_things_rising(self):
        for heap in range(32):
            told = things_in(heap)
            self.assertTrue(are_wholes(told))
            self.assertEqual(told, tuple(sorted(set_of(heap))))

    def test_by_name_and_again(self):
        self.assertEqual(things_in(heap=13), (0, 2, 3))
        self.assertEqual(things_in(heap=13), things_in(13))


class HeapOf(unittest.TestCase):

    def test_written_out(self):
        self.assertEqual(heap_of(()), 0)
        self.assertEqual(heap_of((4,)), 16)
        self.assertEqual(heap_of((2, 0)), 5)
        self.assertEqual(heap_of((4, 3, 2, 1, 0)), 31)

    def test_in_whatever_order(self):
        for part in parts_of(range(5)):
            for things in permutations(part):
                told = heap_of(things)
                self.assertIs(type(told), int)
                self.assertEqual(told, number_of(part))

    def test_undoes_things_in(self):
        for heap in range(32):
            self.assertEqual(heap_of(things_in(heap)), heap)

    def test_by_name_and_again(self):
        things = (3, 1)
        self.assertEqual(heap_of(things=things), 10)
        self.assertEqual(heap_of(things), 10)
        self.assertEqual(things, (3, 1))


class IsWithin(unittest.TestCase):

    def test_each_two_heaps(self):
        for one in range(32):
            for other in range(32):
                self.assertIs(is_within(one, other), set_of(one) <= set_of(other))

    def test_nought_within_all_and_each_within_itself(self):
        for heap in range(32):
            self.assertIs(is_within(0, heap), True)
            self.assertIs(is_within(heap, heap), True)
            self.assertIs(is_within(heap, 31), True)
            self.assertIs(is_within(heap, 0), heap == 0)

    def test_by_name(self):
        self.assertIs(is_within(one=2, other=3), True)
        self.assertIs(is_within(other=2, one=3), False)


class Helpers(unittest.TestCase):

    def test_a_thing_in_and_out(self):
        for heap in range(32):
            for thing in range(5):
                things = set_of(heap)
                self.assertIs(has(heap, thing), thing in things)
                self.assertEqual(put_in(heap, thing), number_of(things | {thing}))
                self.assertEqual(taken_out(heap, thing), number_of(things - {thing}))
                self.assertEqual(exchanged(heap, thing), number_of(things ^ {thing}))

    def test_what_is_left(self):
        for one in range(32):
            for other in range(32):
                self.assertEqual(less(one, other), number_of(set_of(one) - set_of(other)))

    def test_sides(self):
        self.assertEqual(heap_of_side((0, 1, 1, 0, 1), 1), 22)
        self.assertEqual(heap_of_side((0, 1, 1, 0, 1), 0), 9)


if __name__ == "__main__":
    unittest.main()
