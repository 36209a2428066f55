"""Point 7: wants that are made; 3 (h): they are of their sides."""

import unittest
from itertools import product

from tests.samples import (
    are_wholes, assigning, chance, number_of, parts_of, set_of, some_sides, some_want, with_sides,
)
from wantprices.kinds import breaking
from wantprices.made import alone, joined, paired, some_of
from wantprices.wants import is_want, lessened


def some_worths(source, many, most=1000):
    return tuple(source.randint(0, most) for _ in range(many))


def all_pairs(sides):
    things = range(len(sides))
    return [(i, j) for i in things for j in things if sides[i] == 0 and sides[j] == 1]


def some_rows(source, sides, most=1000):
    pairs = all_pairs(sides)
    source.shuffle(pairs)
    return tuple((i, j, source.randint(0, most)) for i, j in pairs[:source.randint(0, len(pairs))])


def plain_some_of(worths, many):
    return tuple(
        max(sum(worths[thing] for thing in part) for part in parts_of(set_of(heap)) if len(part) <= many)
        for heap in range(2 ** len(worths))
    )


def plain_joined(one, other):
    return tuple(
        max(one[number_of(part)] + other[number_of(set_of(heap) - part)] for part in parts_of(set_of(heap)))
        for heap in range(len(one))
    )


def plain_paired(sides, rows):
    told = [0] * 2 ** len(sides)
    for part in parts_of(range(len(rows))):
        things = [thing for at in part for thing in rows[at][:2]]
        if len(things) == len(set(things)):
            for heap in range(len(told)):
                if set(things) <= set_of(heap):
                    told[heap] = max(told[heap], sum(rows[at][2] for at in part))
    return tuple(told)


class Made(unittest.TestCase):

    def check_want(self, told, many):
        self.assertTrue(are_wholes(told))
        self.assertTrue(is_want(told, many))


class Alone(Made):

    def test_written_out(self):
        self.assertEqual(alone((7,)), (0, 7))
        self.assertEqual(alone((0,)), (0, 0))
        self.assertEqual(alone((1, 2, 4)), (0, 1, 2, 3, 4, 5, 6, 7))
        self.assertEqual(alone((5, 5)), (0, 5, 5, 10))

    def test_things_together_and_of_any_sides(self):
        source = chance(11)
        for many in range(1, 6):
            for most in (0, 2, 1000):
                worths = some_worths(source, many, most)
                told = alone(worths)
                self.check_want(told, many)
                self.assertEqual(told, tuple(sum(worths[t] for t in set_of(heap)) for heap in range(2 ** many)))
                for sides in product((0, 1), repeat=many):
                    self.assertIsNone(breaking(told, sides))

    def test_by_name_and_again(self):
        worths = (3, 4)
        self.assertEqual(alone(worths=worths), alone(worths))
        self.assertEqual(worths, (3, 4))


class SomeOf(Made):

    def test_written_out(self):
        self.assertEqual(some_of((3, 5), 1), (0, 3, 5, 5))
        self.assertEqual(some_of((3, 5, 4), 2), (0, 3, 5, 8, 4, 7, 9, 9))
        self.assertEqual(some_of((1, 1, 1), 2), (0, 1, 1, 2, 1, 2, 2, 2))

    def test_the_greatest_of_all_parts_and_of_sides_nought(self):
        source = chance(12)
        for many in range(1, 6):
            for most in (0, 2, 1000):
                for count in range(many + 3):
                    worths = some_worths(source, many, most)
                    told = some_of(worths, count)
                    self.check_want(told, many)
                    self.assertEqual(told, plain_some_of(worths, count))
                    self.assertIsNone(breaking(told, (0,) * many))

    def test_none_all_and_more(self):
        source = chance(13)
        for many in range(1, 6):
            worths = some_worths(source, many)
            self.assertEqual(some_of(worths, 0), (0,) * 2 ** many)
            for count in (many, many + 1, 10 ** 6):
                self.assertEqual(some_of(worths, count), alone(worths))

    def test_by_name_and_again(self):
        worths = (3, 4)
        self.assertEqual(some_of(worths=worths, many=1), (0, 3, 4, 4))
        self.assertEqual(some_of(many=1, worths=worths), some_of(worths, 1))
        self.assertEqual(worths, (3, 4))


class Joined(Made):

    def test_written_out(self):
        self.assertEqual(joined((0, 3), (0, 5)), (0, 5))
        self.assertEqual(joined((0, 3, 2, 4), (0, 1, 4, 4)), (0, 3, 4, 7))
        self.assertEqual(joined((0, 0, 0, 9), (0, 2, 3, 5)), (0, 2, 3, 9))

    def test_the_greatest_of_all_parts(self):
        source = chance(14)
        for many in range(1, 6):
            for most in (0, 2, 1000):
                one, other = some_want(source, many, most), some_want(source, many, most)
                told = joined(one, other)
                self.check_want(told, many)
                self.assertEqual(told, plain_joined(one, other))
                self.assertEqual(joined(other, one), told)

    def test_with_noughts_either_way_about(self):
        source = chance(15)
        for many in range(1, 6):
            want, noughts = some_want(source, many), (0,) * 2 ** many
            self.assertEqual(joined(want, noughts), want)
            self.assertEqual(joined(noughts, want), want)
            self.assertEqual(joined(noughts, noughts), noughts)

    def test_two_of_one_are_some_of_two(self):
        source = chance(16)
        for many in range(1, 6):
            worths = some_worths(source, many)
            once = some_of(worths, 1)
            self.assertEqual(joined(once, once), some_of(worths, 2))
            self.assertEqual(joined(joined(once, once), once), some_of(worths, 3))

    def test_of_the_sides_of_which_both_are(self):
        source = chance(17)
        for many in range(1, 6):
            for sides in product((0, 1), repeat=many):
                one = paired(sides, some_rows(source, sides))
                other = with_sides(assigning(source, many), sides)
                self.assertIsNone(breaking(other, sides))
                told = joined(joined(one, other), alone(some_worths(source, many)))
                self.check_want(told, many)
                self.assertIsNone(breaking(told, sides))

    def test_what_is_lessened_is_of_the_same_sides(self):
        source = chance(18)
        for many in range(1, 6):
            for sides in product((0, 1), repeat=many):
                want = joined(paired(sides, some_rows(source, sides)), with_sides(assigning(source, many), sides))
                for thing in range(many):
                    told = lessened(want, thing)
                    self.check_want(told, many)
                    self.assertIsNone(breaking(told, sides))
                    self.assertIsNone(breaking(joined(told, want), sides))

    def test_by_name_and_again(self):
        one, other = (0, 3, 2, 4), (0, 1, 4, 4)
        self.assertEqual(joined(one=one, other=other), joined(one, other))
        self.assertEqual(joined(other=other, one=one), joined(one, other))
        self.assertEqual((one, other), ((0, 3, 2, 4), (0, 1, 4, 4)))


class Paired(Made):

    def test_written_out(self):
        self.assertEqual(paired((0, 1), ((0, 1, 6),)), (0, 0, 0, 6))
        self.assertEqual(paired((1, 0), ((1, 0, 6),)), (0, 0, 0, 6))
        self.assertEqual(paired((0, 0, 1), ((0, 2, 4), (1, 2, 5))), (0, 0, 0, 0, 0, 4, 5, 5))
        rows = ((0, 2, 4), (0, 3, 6), (1, 2, 1), (1, 3, 5))
        self.assertEqual(paired((0, 0, 1, 1), rows), (0, 0, 0, 0, 0, 4, 1, 4, 0, 6, 5, 6, 0, 6, 5, 9))

    def test_no_rows(self):
        for many in range(1, 6):
            for sides in product((0, 1), repeat=many):
                self.assertEqual(paired(sides, ()), (0,) * 2 ** many)

    def test_the_greatest_of_all_parts_of_the_rows(self):
        source = chance(19)
        for many in range(1, 6):
            for sides in product((0, 1), repeat=many):
                for most in (0, 2, 1000):
                    rows = some_rows(source, sides, most)
                    told = paired(sides, rows)
                    self.check_want(told, many)
                    self.assertEqual(told, plain_paired(sides, rows))
                    self.assertIsNone(breaking(told, sides))

    def test_rows_in_another_order(self):
        source = chance(20)
        for _ in range(40):
            sides = some_sides(source, 5)
            rows = tuple((i, j, source.randint(0, 9)) for i, j in all_pairs(sides))
            mixed = tuple(source.sample(rows, len(rows)))
            self.assertEqual(paired(sides, mixed), paired(sides, rows))
            self.assertEqual(paired(sides, rows[::-1]), paired(sides, rows))

    def test_rows_that_share_a_thing(self):
        told = paired((0, 1, 1, 1), ((0, 1, 3), (0, 2, 7), (0, 3, 5)))
        self.assertEqual(told[15], 7)
        self.assertEqual(told[1 + 2 + 8], 5)
        told = paired((0, 0, 0, 1), ((0, 3, 3), (1, 3, 3), (2, 3, 3)))
        self.assertEqual(told, (0,) * 9 + (3,) * 7)

    def test_by_name_and_again(self):
        rows = ((0, 1, 6),)
        self.assertEqual(paired(sides=(0, 1), rows=rows), (0, 0, 0, 6))
        self.assertEqual(paired(rows=rows, sides=(0, 1)), paired((0, 1), rows))
        self.assertEqual(rows, ((0, 1, 6),))


if __name__ == "__main__":
    unittest.main()
