"""Point 12: price breaks; 3 (c): there is one just where a want is not of its sides; 3 (h): none of what is made."""

import unittest
from itertools import product

from tests.samples import (
    all_told, all_wants, are_wholes, chance, number_of, plain_price_break, set_of, some_sides, wants_of_all_kinds,
    with_sides,
)
from wantprices.kinds import breaking
from wantprices.made import alone, joined, paired, some_of
from wantprices.pricebreaks import price_break
from wantprices.pricelooks import shows_price_break
from wantprices.wants import lessened


def rows_of_sides(source, sides):
    """Rows of a paired want: of all pairs of both sides some, with worths."""
    things = range(len(sides))
    pairs = [(i, j) for i, j in product(things, things) if (sides[i], sides[j]) == (0, 1)]
    return tuple(pair + (source.randint(0, 9),) for pair in pairs if source.random() < 0.7)


class PriceBreak(unittest.TestCase):

    def check(self, want, sides):
        """The kind of what breaks the want, None where nothing does."""
        broken = breaking(want, sides)
        told = price_break(want, sides)
        self.assertTrue(all_told(told))
        if broken is None:
            self.assertIsNone(told)
            return None
        prices, thing, heap = told
        self.assertTrue(are_wholes(prices + (thing, heap)))
        self.assertTrue(plain_price_break(want, sides, prices, thing, heap), (want, sides, told))
        self.assertIs(shows_price_break(want, sides, told), True)
        self.assertEqual(price_break(want, sides), told)
        return broken[0]

    def test_one_thing_has_none(self):
        for worth in (0, 1, 1000):
            self.assertIsNone(price_break((0, worth), (0,)))
            self.assertIsNone(price_break((0, worth), (1,)))

    def test_two_things(self):
        for sides in ((0, 0), (1, 1)):
            self.assertEqual(self.check((0, 0, 0, 1), sides), "pair")
            self.assertEqual(self.check((0, 400, 400, 1000), sides), "pair")
            self.assertIsNone(self.check((0, 1, 1, 1), sides))
        for sides in ((0, 1), (1, 0)):
            self.assertEqual(self.check((0, 1, 1, 1), sides), "pair")
            self.assertEqual(self.check((0, 1000, 1000, 1000), sides), "pair")
            self.assertIsNone(self.check((0, 0, 0, 1), sides))

    def test_three_alone(self):
        self.assertEqual(self.check((0, 2, 2, 4, 2, 3, 3, 4), (0, 0, 0)), "three")
        for want in ((0, 2, 2, 4, 2, 3, 3, 4), (0, 2, 2, 3, 2, 4, 3, 4), (0, 2, 2, 3, 2, 3, 4, 4)):
            for sides in product((0, 1), repeat=3):
                self.assertEqual(self.check(with_sides(want, sides), sides), "three")

    def test_all_small_wants(self):
        seen = {}
        for many, most in ((1, 3), (2, 3), (3, 2)):
            for want in all_wants(many, most):
                for sides in product((0, 1), repeat=many):
                    kind = self.check(want, sides)
                    seen[kind] = seen.get(kind, 0) + 1
        for kind in (None, "pair", "three"):
            self.assertGreater(seen[kind], 5)

    def test_some_wants_of_all_kinds(self):
        source = chance(71)
        seen = {}
        for many in range(1, 6):
            for sides in product((0, 1), repeat=many):
                for want in wants_of_all_kinds(source, many, sides):
                    kind = self.check(want, sides)
                    seen[kind] = seen.get(kind, 0) + 1
        for kind in (None, "pair", "three"):
            self.assertGreater(seen[kind], 20)

    def test_three_in_a_heap_of_others(self):
        # Turned, the three things break where both others are in the heap, and nowhere else.
        three = (0, 2, 2, 4, 2, 3, 3, 4)
        for sides in product((0, 1), repeat=5):
            for places in ((0, 1, 2), (2, 3, 4), (0, 2, 4), (4, 1, 3)):
                numbers = []
                for heap in range(32):
                    own = number_of(at for at, thing in enumerate(places) if thing in set_of(heap))
                    numbers.append(three[own] if len(set_of(heap) - set(places)) == 2 else 2 * len(set_of(own)))
                self.assertEqual(self.check(with_sides(tuple(numbers), sides), sides), "three")

    def test_what_is_made_has_none(self):
        source = chance(72)
        for many in range(1, 6):
            for most in (3, 1000):
                sides = some_sides(source, many)
                worths = [tuple(source.randint(0, most) for _ in range(many)) for _ in range(2)]
                self.assertIsNone(price_break(alone(worths[0]), sides))
                rows = rows_of_sides(source, sides)
                one, other = paired(sides, rows), joined(alone(worths[0]), paired(sides, rows))
                for want in (one, other, joined(one, other)):
                    self.assertIsNone(price_break(want, sides))
                    self.assertIsNone(price_break(lessened(want, source.randrange(many)), sides))
                for count in range(many + 2):
                    some = some_of(worths[0], count)
                    for want in (some, joined(some, some_of(worths[1], 1)), lessened(some, source.randrange(many))):
                        self.assertIsNone(price_break(want, (0,) * many))

    def test_by_name_and_unchanged(self):
        want, sides = (0, 0, 0, 1), (0, 0)
        self.assertEqual(price_break(want=want, sides=sides), price_break(want, sides))
        self.assertEqual(price_break(sides=sides, want=want), price_break(want, sides))
        self.assertIsNone(price_break(want=want, sides=(0, 1)))
        self.assertEqual((want, sides), ((0, 0, 0, 1), (0, 0)))


if __name__ == "__main__":
    unittest.main()
