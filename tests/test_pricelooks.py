"""Point 12: the looker for price breaks; 3 (c): it takes none of a want that is of its sides."""

import unittest
from itertools import product

from tests.samples import (
    all_wants, are_wholes, assigning, chance, nested, number_of, plain_best_heaps, plain_price_break, some_prices,
    some_sides, some_want, spoiled, strange_things, with_sides,
)
from wantprices.kinds import breaking
from wantprices.pricebreaks import price_break
from wantprices.pricelooks import shows_price_break

TWO_TOGETHER = (0, 0, 0, 1)
ONE_OF_TWO = (0, 1, 1, 1)


class ShowsPriceBreak(unittest.TestCase):

    def test_written_out(self):
        # Both together are worth 1: at (0, 1) both are among the best, and with 0 dearer by one none has 1.
        self.assertIs(shows_price_break(TWO_TOGETHER, (0, 0), ((0, 1), 0, 3)), True)
        self.assertIs(shows_price_break(TWO_TOGETHER, (0, 0), ((1, 0), 1, 3)), True)
        # The same of side 1: they are given away together, and the step makes one cheaper.
        self.assertIs(shows_price_break(TWO_TOGETHER, (1, 1), ((1, 0), 0, 0)), True)
        self.assertIs(shows_price_break(TWO_TOGETHER, (1, 1), ((0, 1), 1, 0)), True)
        self.assertIs(shows_price_break(TWO_TOGETHER, (1, 1), ((1, 1), 0, 0)), False)
        self.assertIs(shows_price_break(TWO_TOGETHER, (1, 1), ((0, 1), 0, 0)), False)
        # Of two sides: to have 0 and lack 1 is let go at once.
        self.assertIs(shows_price_break(ONE_OF_TWO, (0, 1), ((1, 1), 0, 1)), False)
        self.assertIs(shows_price_break(ONE_OF_TWO, (0, 1), ((0, 0), 0, 1)), True)
        self.assertIs(shows_price_break(ONE_OF_TWO, (0, 1), ((0, 0), 1, 1)), False)
        self.assertIs(shows_price_break(ONE_OF_TWO, (0, 1), ((1, 1), 1, 1)), True)

    def test_a_heap_that_is_not_best(self):
        self.assertIs(shows_price_break(TWO_TOGETHER, (0, 0), ((1, 1), 0, 3)), False)
        self.assertIs(shows_price_break(TWO_TOGETHER, (0, 0), ((0, 2), 0, 3)), False)

    def test_a_step_that_lets_nothing_go(self):
        self.assertIs(shows_price_break(TWO_TOGETHER, (0, 0), ((0, 0), 0, 3)), False)
        self.assertIs(shows_price_break(TWO_TOGETHER, (0, 0), ((0, 1), 0, 0)), False)
        self.assertIs(shows_price_break(TWO_TOGETHER, (0, 0), ((0, 1), 0, 1)), False)
        self.assertIs(shows_price_break(TWO_TOGETHER, (0, 0), ((-5, 5), 0, 3)), False)

    def test_one_thing_has_none(self):
        for worth in (0, 1, 1000):
            for sides, price, heap in product(((0,), (1,)), range(-3, 4), range(2)):
                for cost in (price, worth + price):
                    self.assertIs(shows_price_break((0, worth), sides, ((cost,), 0, heap)), False)

    def test_all_small_wants_of_two(self):
        places = [(prices, thing, heap) for prices in product(range(-2, 5), repeat=2)
                  for thing in range(2) for heap in range(4)]
        for want in all_wants(2, 2):
            for sides in product((0, 1), repeat=2):
                told = [shows_price_break(want, sides, place) for place in places]
                self.assertEqual(told, [plain_price_break(want, sides, *place) for place in places])
                self.assertEqual(any(told), breaking(want, sides) is not None)

    def test_against_the_words(self):
        source = chance(81)
        seen = []
        for many in range(1, 6):
            for _ in range(400):
                sides, want = some_sides(source, many), some_want(source, many, 3)
                told = price_break(want, sides)
                prices = source.choice([some_prices(source, many, 2), told[0] if told else (1,) * many])
                heap = number_of(source.choice(plain_best_heaps(want, prices)))
                thing = source.randrange(many)
                told = shows_price_break(want, sides, (prices, thing, heap))
                self.assertIs(told, plain_price_break(want, sides, prices, thing, heap))
                self.assertTrue(not told or breaking(want, sides))
                seen.append(told)
        self.assertGreater(seen.count(True), 100)
        self.assertGreater(seen.count(False), 100)

    def test_none_of_wants_of_their_sides(self):
        source = chance(82)
        for many in range(1, 6):
            for most in (1, 3, 1000):
                sides = some_sides(source, many)
                want = with_sides(assigning(source, many, most), sides)
                for _ in range(12):
                    # What a thing adds to some heap is where heaps of like gains are found.
                    heaps = [source.randrange(2 ** many) for _ in range(many)]
                    prices = tuple(
                        want[heap | 2 ** thing] - want[heap & ~2 ** thing] for thing, heap in enumerate(heaps)
                    )
                    for best in plain_best_heaps(want, prices):
                        for thing in range(many):
                            told = shows_price_break(want, sides, (prices, thing, number_of(best)))
                            self.assertIs(told, False)

    def test_prices_however_great(self):
        for far in (10 ** 6, 10 ** 40):
            want = TWO_TOGETHER + tuple(worth + 1 for worth in TWO_TOGETHER)
            self.assertIs(shows_price_break(want, (0, 0, 0), ((0, 1, far), 0, 3)), True)
            self.assertIs(shows_price_break(want, (0, 0, 0), ((0, 1, -far), 0, 7)), True)
            self.assertIs(shows_price_break(want, (0, 0, 0), ((0, far, 0), 0, 3)), False)
            self.assertIs(shows_price_break(want, (0, 0, 0), ((0, 1, -far), 0, 3)), False)

    def test_numbers_that_are_not_there(self):
        for thing in (-2, -1, 2, 10 ** 30, -10 ** 30):
            self.assertIs(shows_price_break(TWO_TOGETHER, (0, 0), ((0, 1), thing, 3)), False)
        for heap in (-4, -1, 4, 7, 10 ** 30):
            self.assertIs(shows_price_break(TWO_TOGETHER, (0, 0), ((0, 1), 0, heap)), False)
        for prices in ((), (0,), (0, 1, 0), [0, 1], 0, "01"):
            self.assertIs(shows_price_break(TWO_TOGETHER, (0, 0), (prices, 0, 3)), False)

    def test_truths_are_no_numbers(self):
        for thing in (((0, True), 0, 3), ((False, 1), 0, 3), ((0, 1), False, 3), ((1, 0), True, 3)):
            self.assertIs(shows_price_break(TWO_TOGETHER, (0, 0), thing), False)
        self.assertIs(shows_price_break(TWO_TOGETHER, (1, 1), ((1, 0), 0, False)), False)

    def test_another_length(self):
        told = ((0, 1), 0, 3)
        for thing in ((), told[:1], told[:2], told + (0,), told + told, told[::-1], (told,)):
            self.assertIs(shows_price_break(TWO_TOGETHER, (0, 0), thing), False)

    def test_anything_is_answered(self):
        source = chance(83)
        for strange in strange_things():
            self.assertIs(shows_price_break(TWO_TOGETHER, (0, 0), strange), False)
            self.assertIs(shows_price_break(ONE_OF_TWO, (0, 0), strange), False)
        for many in range(2, 6):
            sides = (0,) * many
            # The first two things are worth something together alone.
            want = tuple(worth + 2000 * (heap & 3 == 3) for heap, worth in enumerate(some_want(source, many)))
            told = price_break(want, sides)
            self.assertIs(shows_price_break(want, sides, told), True)
            for worse in spoiled(told):
                prices_alone_differ = (
                    type(worse) is tuple and len(worse) == 3 and worse[1:] == told[1:]
                    and are_wholes(worse[1:]) and are_wholes(worse[0]) and len(worse[0]) == many
                )
                fits = prices_alone_differ and plain_price_break(want, sides, *worse)
                self.assertIs(shows_price_break(want, sides, worse), fits, worse)

    def test_deep_nests(self):
        deep = nested(28, 0, lambda thing: (thing, thing))
        for thing in ((deep, 0, 3), ((0, deep), 0, 3), ((0, 1), deep, 3), ((0, 1), 0, deep)):
            self.assertIs(shows_price_break(TWO_TOGETHER, (0, 0), thing), False)

    def test_by_name_again_and_unchanged(self):
        thing = ((0, 1), 0, 3)
        self.assertIs(shows_price_break(want=TWO_TOGETHER, sides=(0, 0), thing=thing), True)
        self.assertIs(shows_price_break(thing=thing, sides=(0, 0), want=TWO_TOGETHER), True)
        kept = [[0, 1], 0, 3]
        self.assertIs(shows_price_break(TWO_TOGETHER, (0, 0), kept), False)
        self.assertEqual(kept, [[0, 1], 0, 3])


if __name__ == "__main__":
    unittest.main()
