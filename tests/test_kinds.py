"""Point 10: of which kind a want is, and else what breaks it."""

import unittest
from itertools import product

from tests.samples import (
    all_told, all_wants, are_wholes, assigning, chance, number_of, set_of, some_sides, some_want,
    wants_of_all_kinds, with_sides,
)
from wantprices.kinds import breaking, first_strange, turned
from wantprices.made import alone, some_of

THREE_ALONE = (0, 2, 2, 4, 2, 3, 3, 4)


def plain_turned(want, sides):
    ones = frozenset(thing for thing, side in enumerate(sides) if side == 1)
    return tuple(want[number_of(set_of(heap) ^ ones)] for heap in range(len(want)))


def plain_breaking(want, sides):
    numbers = plain_turned(want, sides)

    def w(heap, *things):
        return numbers[number_of(set_of(heap) | set(things))]

    pairs, threes = [], []
    things = range(len(sides))
    for heap, i, j in product(range(len(want)), things, things):
        if i < j and not {i, j} & set_of(heap):
            if w(heap, i, j) + w(heap) > w(heap, i) + w(heap, j):
                pairs.append(("pair", heap, i, j))
            for k in set(things) - {i, j} - set_of(heap):
                both = w(heap, i, j) + w(heap, k)
                if both > w(heap, i, k) + w(heap, j) and both > w(heap, j, k) + w(heap, i):
                    threes.append(("three", heap, i, j, k))
    return min(pairs or threes, default=None)


class Turned(unittest.TestCase):

    def test_written_out(self):
        self.assertEqual(turned((0, 5), (1,)), (5, 0))
        self.assertEqual(turned((0, 1, 2, 3), (1, 0)), (1, 0, 3, 2))
        self.assertEqual(turned((0, 1, 2, 3), (0, 1)), (2, 3, 0, 1))
        self.assertEqual(turned((0, 1, 2, 3), (1, 1)), (3, 2, 1, 0))

    def test_each_heap(self):
        source = chance(41)
        for many in range(1, 6):
            for sides in product((0, 1), repeat=many):
                want = some_want(source, many)
                told = turned(want, sides)
                self.assertTrue(are_wholes(told))
                self.assertEqual(told, plain_turned(want, sides))

    def test_by_noughts_and_twice(self):
        source = chance(42)
        for many in range(1, 6):
            want = some_want(source, many)
            self.assertEqual(turned(want, (0,) * many), want)
            self.assertEqual(turned(want, (1,) * many), want[::-1])
            for sides in product((0, 1), repeat=many):
                self.assertEqual(turned(turned(want, sides), sides), want)

    def test_by_name_and_again(self):
        want = (0, 1, 2, 3)
        self.assertEqual(turned(want=want, sides=(1, 0)), turned(want, (1, 0)))
        self.assertEqual(turned(sides=(1, 0), want=want), (1, 0, 3, 2))
        self.assertEqual(want, (0, 1, 2, 3))


class Breaking(unittest.TestCase):

    def test_a_pair(self):
        self.assertEqual(breaking((0, 0, 0, 1), (0, 0)), ("pair", 0, 0, 1))
        self.assertEqual(breaking((0, 0, 0, 1), (1, 1)), ("pair", 0, 0, 1))
        self.assertEqual(breaking((0, 1, 1, 1), (0, 1)), ("pair", 0, 0, 1))
        self.assertEqual(breaking((0, 1, 1, 1), (1, 0)), ("pair", 0, 0, 1))

    def test_other_sides_of_the_same(self):
        for sides in ((0, 1), (1, 0)):
            self.assertIsNone(breaking((0, 0, 0, 1), sides))
        for sides in ((0, 0), (1, 1)):
            self.assertIsNone(breaking((0, 1, 1, 1), sides))

    def test_alike_is_not_above(self):
        for sides in product((0, 1), repeat=3):
            self.assertIsNone(breaking(alone((4, 4, 4)), sides))
        self.assertIsNone(breaking((0, 2, 2, 4, 2, 3, 4, 4), (0, 0, 0)))

    def test_the_first_pair(self):
        self.assertEqual(breaking((0, 1, 1, 2, 1, 2, 3, 3), (0, 0, 0)), ("pair", 0, 1, 2))
        self.assertEqual(breaking((0, 1, 1, 2, 1, 3, 3, 3), (0, 0, 0)), ("pair", 0, 0, 2))
        self.assertEqual(breaking((0, 2, 2, 2, 2, 2, 2, 3), (0, 0, 0)), ("pair", 1, 1, 2))
        self.assertEqual(breaking((0, 2, 2, 3, 2, 3, 2, 4), (0, 0, 0)), ("pair", 2, 0, 2))

    def test_three_and_no_pair(self):
        self.assertEqual(breaking(THREE_ALONE, (0, 0, 0)), ("three", 0, 0, 1, 2))
        self.assertEqual(breaking((0, 2, 2, 3, 2, 4, 3, 4), (0, 0, 0)), ("three", 0, 0, 2, 1))
        self.assertEqual(breaking((0, 2, 2, 3, 2, 3, 4, 4), (0, 0, 0)), ("three", 0, 1, 2, 0))

    def test_a_pair_goes_ahead_of_three(self):
        # Three break it at heap 0, a pair only behind that, at heap 4.
        want = (0, 2, 2, 4, 2, 3, 3, 5)
        self.assertEqual(breaking(want, (0, 0, 0)), ("pair", 4, 0, 1))

    def test_three_above_both_others(self):
        self.assertIsNone(breaking((0, 2, 2, 4, 2, 4, 3, 4), (0, 0, 0)))
        self.assertIsNone(breaking((0, 2, 2, 4, 2, 3, 4, 4), (0, 0, 0)))

    def test_nothing(self):
        self.assertIsNone(breaking((0, 5), (0,)))
        self.assertIsNone(breaking((0, 5), (1,)))
        for many in range(1, 6):
            for sides in product((0, 1), repeat=many):
                self.assertIsNone(breaking((0,) * 2 ** many, sides))

    def test_all_small_wants(self):
        for many, most in ((1, 3), (2, 3), (3, 2)):
            for want in all_wants(many, most):
                for sides in product((0, 1), repeat=many):
                    self.assertEqual(breaking(want, sides), plain_breaking(want, sides))

    def test_against_the_words(self):
        source = chance(43)
        seen = {}
        for many in range(1, 6):
            for sides in product((0, 1), repeat=many):
                for want in wants_of_all_kinds(source, many, sides):
                    told = breaking(want, sides)
                    self.assertTrue(all_told(told))
                    self.assertEqual(told, plain_breaking(want, sides))
                    kind = told and told[0]
                    seen[kind] = seen.get(kind, 0) + 1
                    self.assertTrue(told is None or are_wholes(told[1:]))
        for kind in (None, "pair", "three"):
            self.assertGreater(seen[kind], 5)

    def test_by_name_and_again(self):
        self.assertEqual(breaking(want=THREE_ALONE, sides=(0, 0, 0)), breaking(THREE_ALONE, (0, 0, 0)))
        self.assertEqual(breaking(sides=(0, 0), want=(0, 0, 0, 1)), ("pair", 0, 0, 1))


class FirstStrange(unittest.TestCase):

    def test_none(self):
        for hands in range(1, 6):
            self.assertIsNone(first_strange(((0, 0), ((0, 1, 1, 1),) * hands)))
            self.assertIsNone(first_strange(((0, 1), ((0, 0, 0, 1),) * hands)))

    def test_one_at_each_place(self):
        for hands in range(1, 6):
            for at in range(hands):
                wants = [(0, 1, 1, 1)] * hands
                wants[at] = (0, 0, 0, 1)
                told = first_strange(((0, 0), tuple(wants)))
                self.assertIs(type(told), int)
                self.assertEqual(told, at)

    def test_the_first_of_several(self):
        fine, strange = some_of((2, 3, 4), 1), (0, 0, 0, 1, 0, 1, 1, 2)
        self.assertEqual(first_strange(((0, 0, 0), (fine, THREE_ALONE, strange))), 1)
        self.assertEqual(first_strange(((0, 0, 0), (strange, fine, THREE_ALONE))), 0)
        self.assertEqual(first_strange(((0, 0, 0), (fine, fine, fine, strange, strange))), 3)

    def test_against_breaking(self):
        source = chance(44)
        for many in range(1, 6):
            for hands in range(1, 6):
                sides = some_sides(source, many)
                wants = tuple(
                    source.choice((some_want(source, many), with_sides(assigning(source, many), sides)))
                    for _ in range(hands)
                )
                strange = [hand for hand in range(hands) if plain_breaking(wants[hand], sides)]
                self.assertEqual(first_strange((sides, wants)), strange[0] if strange else None)

    def test_by_name(self):
        self.assertEqual(first_strange(town=((0, 0), ((0, 0, 0, 1),))), 0)


if __name__ == "__main__":
    unittest.main()
