"""Point 11: exchanges; 3 (c): there is one for each two heaps just where the want is of its sides."""

import unittest
from itertools import product

from tests.samples import (
    all_told, all_wants, assigning, chance, covering, number_of, set_of, some_want, with_sides,
)
from wantprices.exchanging import exchanges
from wantprices.kinds import breaking
from wantprices.made import alone, some_of


def plain_exchanges(want, sides):
    ones = frozenset(thing for thing, side in enumerate(sides) if side == 1)
    things = range(len(sides))

    def w(heap):
        return want[number_of(heap ^ ones)]

    rows = []
    for one, other, i in product(range(len(want)), range(len(want)), things):
        x, y = set_of(one), set_of(other)
        if i in x and i not in y:
            both = w(x) + w(y)
            least = [j for j in things if j in y - x and both <= w(x - {i} | {j}) + w(y - {j} | {i})]
            if both <= w(x - {i}) + w(y | {i}):
                rows.append((one, other, i, None))
            elif least:
                rows.append((one, other, i, least[0]))
            else:
                return None
    return tuple(rows)


class Exchanges(unittest.TestCase):

    def test_one_thing(self):
        for sides in ((0,), (1,)):
            self.assertEqual(exchanges((0, 5), sides), ((1, 0, 0, None),))

    def test_two_things(self):
        self.assertEqual(exchanges((0, 1, 1, 1), (0, 0)), (
            (1, 0, 0, None), (1, 2, 0, 1), (2, 0, 1, None), (2, 1, 1, 0),
            (3, 0, 0, None), (3, 0, 1, None), (3, 1, 1, None), (3, 2, 0, None),
        ))
        self.assertEqual(exchanges((0, 0, 0, 4), (0, 1)), (
            (1, 0, 0, None), (1, 2, 0, 1), (2, 0, 1, None), (2, 1, 1, 0),
            (3, 0, 0, None), (3, 0, 1, None), (3, 1, 1, None), (3, 2, 0, None),
        ))

    def test_none_goes_ahead_of_things(self):
        for many in range(1, 6):
            for sides in product((0, 1), repeat=many):
                told = exchanges(alone((3,) * many), sides)
                self.assertEqual(len(told), many * 4 ** (many - 1))
                self.assertEqual({row[3] for row in told}, {None})

    def test_else_the_least_thing(self):
        told = exchanges(some_of((1, 1, 1), 2), (0, 0, 0))
        self.assertIn((1, 6, 0, 1), told)
        self.assertIn((4, 3, 2, 0), told)
        self.assertIn((2, 5, 1, 0), told)
        # The thing 1 is worth less than 0 and 2 here: to give 2 back for 0 is the least that keeps both.
        self.assertIn((1, 6, 0, 2), exchanges(some_of((9, 1, 9), 1), (0, 0, 0)))

    def test_none_instead_of_all(self):
        self.assertIsNone(exchanges((0, 0, 0, 1), (0, 0)))
        self.assertIsNone(exchanges((0, 0, 0, 1), (1, 1)))
        self.assertIsNone(exchanges((0, 1, 1, 1), (0, 1)))
        self.assertIsNone(exchanges((0, 2, 2, 4, 2, 3, 3, 4), (0, 0, 0)))

    def test_against_the_words(self):
        source = chance(51)
        seen = []
        for many in range(1, 6):
            for sides in product((0, 1), repeat=many):
                wants = [some_want(source, many, 3), with_sides(covering(source, many), sides)]
                wants += [with_sides(assigning(source, many, most), sides) for most in (2, 1000)]
                for want in wants:
                    told = exchanges(want, sides)
                    self.assertTrue(all_told(told))
                    self.assertEqual(told, plain_exchanges(want, sides))
                    self.assertEqual(told is None, breaking(want, sides) is not None)
                    seen.append(told is None)
                    if told is not None:
                        self.assertEqual(told, tuple(sorted(told, key=lambda row: row[:3])))
                        self.assertFalse([row for row in told if any(isinstance(part, bool) for part in row)])
        self.assertGreater(seen.count(True), 20)
        self.assertGreater(seen.count(False), 20)

    def test_just_where_nothing_breaks_all_small_wants(self):
        for many, most in ((1, 3), (2, 3), (3, 2)):
            for want in all_wants(many, most):
                for sides in product((0, 1), repeat=many):
                    told = exchanges(want, sides)
                    self.assertEqual(told is None, breaking(want, sides) is not None)
                    self.assertEqual(told, plain_exchanges(want, sides))

    def test_by_name_again_and_unchanged(self):
        want, sides = (0, 1, 1, 1), (0, 0)
        self.assertEqual(exchanges(want=want, sides=sides), exchanges(want, sides))
        self.assertEqual(exchanges(sides=sides, want=want), exchanges(want, sides))
        self.assertEqual((want, sides), ((0, 1, 1, 1), (0, 0)))


if __name__ == "__main__":
    unittest.main()
