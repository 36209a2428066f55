"""Points 12 and 19: what a step makes of prices, and which heaps may."""

import unittest

from tests.samples import chance, number_of, parts_of, plain_stepped, set_of, some_sides
from wantprices.moves import heaps_that_may, other_sides, other_way, step_of, stepped


class Moves(unittest.TestCase):

    def test_written_out(self):
        self.assertEqual(stepped((0, 1, 0), (5, 5, 5), 0), (5, 5, 5))
        self.assertEqual(stepped((0, 1, 0), (5, 5, 5), 3), (6, 4, 5))
        self.assertEqual(stepped((0, 1, 0), (5, 5, 5), 6), (5, 4, 6))
        self.assertEqual(stepped((1,), (-3,), 1), (-4,))
        self.assertEqual((step_of(0), step_of(1)), (1, -1))
        self.assertEqual(heaps_that_may((0, 0), (0, 0)), [0, 1, 2, 3])
        self.assertEqual(heaps_that_may((0, 1), (0, 0)), [0, 1])
        self.assertEqual(heaps_that_may((0, 1), (0, 1)), [0, 1, 2, 3])
        self.assertEqual(heaps_that_may((1, 1), (0, 0)), [0])
        self.assertEqual(other_sides((0, 1, 1)), (1, 0, 0))
        self.assertEqual(other_way(((0, 1), ((0, 1, 2, 3),))), ((1, 0), ((0, 1, 2, 3),)))

    def test_against_the_words(self):
        source = chance(331)
        for many in range(1, 6):
            for _ in range(5):
                sides = some_sides(source, many)
                prices = tuple(source.randint(0, 2) for _ in range(many))
                town = (sides, ())
                for way, here in (("below", sides), ("above", other_sides(sides))):
                    may = [number_of(heap) for heap in parts_of(range(many)) if plain_stepped(town, prices, heap, way)]
                    self.assertEqual(heaps_that_may(here, prices), sorted(may))
                    for heap in may:
                        self.assertEqual(stepped(here, prices, heap), plain_stepped(town, prices, set_of(heap), way))


if __name__ == "__main__":
    unittest.main()
