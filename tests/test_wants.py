"""Point 5: wants."""

import unittest
from itertools import product

from tests.samples import are_wholes, chance, nested, set_of, some_want, spoiled, strange_things
from wantprices.wants import is_want, lessened


def is_plainly_want(numbers):
    """Whether whole numbers are a want, by all two heaps."""
    if numbers[0] != 0:
        return False
    heaps = range(len(numbers))
    return all(
        0 <= numbers[one] <= numbers[other] for one in heaps for other in heaps if set_of(one) <= set_of(other)
    )


class IsWant(unittest.TestCase):

    def test_wants_of_one_to_five_things(self):
        source = chance(1)
        for many in range(1, 6):
            for _ in range(20):
                want = some_want(source, many)
                for other in range(1, 6):
                    self.assertIs(is_want(want, other), other == many)

    def test_all_small_tuples_of_one_and_two_things(self):
        for many in (1, 2):
            for numbers in product(range(-1, 3), repeat=2 ** many):
                self.assertIs(is_want(numbers, many), is_plainly_want(numbers))

    def test_tuples_of_three_things(self):
        for numbers in product(range(2), repeat=8):
            self.assertIs(is_want(numbers, 3), is_plainly_want(numbers))

    def test_noughts_alone(self):
        for many in range(1, 6):
            self.assertIs(is_want((0,) * 2 ** many, many), True)

    def test_worths_however_great(self):
        for many in range(1, 6):
            self.assertIs(is_want((0,) + (10 ** 400,) * (2 ** many - 1), many), True)
        self.assertIs(is_want((0, 10 ** 400, 10 ** 400, 10 ** 400 - 1), 2), False)
        self.assertIs(is_want((0, 1001, 1001, 1002), 2), True)

    def test_worth_of_nought_is_nought(self):
        self.assertIs(is_want((1, 1), 1), False)
        self.assertIs(is_want((5, 5, 5, 5), 2), False)
        self.assertIs(is_want((-1, 0), 1), False)

    def test_worth_below_nought(self):
        self.assertIs(is_want((0, -1), 1), False)
        self.assertIs(is_want((0, -1, 0, 0), 2), False)

    def test_no_heap_worth_less_than_one_within(self):
        self.assertIs(is_want((0, 3, 2, 3), 2), True)
        self.assertIs(is_want((0, 3, 2, 2), 2), False)
        self.assertIs(is_want((0, 2, 3, 2), 2), False)

    def test_one_number_less_breaks_a_flat_want(self):
        for many in range(2, 6):
            flat = (0,) + (7,) * (2 ** many - 1)
            for heap in range(1, 2 ** many):
                sunken = flat[:heap] + (6,) + flat[heap + 1:]
                self.assertIs(is_want(sunken, many), len(set_of(heap)) == 1)

    def test_too_short_and_too_long(self):
        for many in range(1, 6):
            for long in range(70):
                self.assertIs(is_want((0,) * long, many), long == 2 ** many)

    def test_anything_is_answered(self):
        for many in range(1, 6):
            for strange in strange_things():
                self.assertIs(is_want(strange, many), False)

    def test_a_strange_thing_in_any_place(self):
        for want, many in (((0, 4), 1), ((0, 1, 2, 3), 2), ((0, 0, 0, 0, 0, 0, 0, 0), 3)):
            for worse in spoiled(want):
                self.assertIs(is_want(worse, many), False, worse)

    def test_truths_are_no_numbers(self):
        self.assertIs(is_want((False, 1), 1), False)
        self.assertIs(is_want((0, True), 1), False)
        self.assertIs(is_want((0, 1), 1), True)

    def test_deep_nests(self):
        deep = nested(30, 0, lambda thing: (0, thing))
        self.assertIs(is_want(deep, 1), False)
        self.assertIs(is_want((0, deep), 1), False)
        self.assertIs(is_want((deep, 0), 1), False)

    def test_by_name(self):
        self.assertIs(is_want(thing=(0, 1), many=1), True)
        self.assertIs(is_want(many=2, thing=(0, 1)), False)


class Lessened(unittest.TestCase):

    def test_written_out(self):
        self.assertEqual(lessened((0, 5), 0), (0, 0))
        self.assertEqual(lessened((0, 2, 3, 4), 0), (0, 0, 3, 3))
        self.assertEqual(lessened((0, 2, 3, 4), 1), (0, 2, 0, 2))

    def test_each_heap_without_the_thing(self):
        source = chance(2)
        for many in range(1, 6):
            for _ in range(10):
                want = some_want(source, many)
                for thing in range(many):
                    told = lessened(want, thing)
                    self.assertTrue(are_wholes(told))
                    self.assertEqual(len(told), len(want))
                    self.assertTrue(is_want(told, many))
                    for heap in range(2 ** many):
                        rest = sum(2 ** other for other in set_of(heap) - {thing})
                        self.assertEqual(told[heap], want[rest])

    def test_twice_by_the_same_thing(self):
        source = chance(3)
        for many in range(1, 6):
            want = some_want(source, many)
            for thing in range(many):
                once = lessened(want, thing)
                self.assertEqual(lessened(once, thing), once)

    def test_by_all_things(self):
        source = chance(4)
        for many in range(1, 6):
            want = some_want(source, many)
            for thing in range(many):
                want = lessened(want, thing)
            self.assertEqual(want, (0,) * 2 ** many)

    def test_noughts_and_great_worths(self):
        self.assertEqual(lessened((0, 0, 0, 0), 1), (0, 0, 0, 0))
        self.assertEqual(lessened((0, 0, 10 ** 400, 10 ** 400), 0), (0, 0, 10 ** 400, 10 ** 400))

    def test_by_name_again_and_unchanged(self):
        want = (0, 2, 3, 4)
        self.assertEqual(lessened(want=want, thing=0), lessened(want, 0))
        self.assertEqual(lessened(thing=1, want=want), lessened(want, 1))
        self.assertEqual(want, (0, 2, 3, 4))


if __name__ == "__main__":
    unittest.main()
