"""Point 20: the lookers for steps."""

import unittest

from tests.samples import (
    RING, alone_town, are_wholes, chance, nested, spoiled, strange_things, towns_of_all_kinds, towns_of_sides,
)
from wantprices.bounds import high_prices, low_prices
from wantprices.kinds import first_strange
from wantprices.made import some_of
from wantprices.moves import other_way
from wantprices.steplooks import shows_falling, shows_rising
from wantprices.stepping import falling, rising, steps_of

TOWN = ((0, 0), ((0, 4, 6, 6), (0, 0, 2, 2)))
BOTH = ((shows_rising, rising), (shows_falling, falling))


def nearly(told, many):
    """What comes of (row, prices) by another whole number in one place, a place more or a place fewer."""
    row, prices = told
    for at in range(len(row) + 1):
        for heap in range(-1, 2 ** many + 1):
            yield (row[:at] + (heap,) + row[at + 1:], prices)
            yield (row[:at] + (heap,) + row[at:], prices)
        yield (row[:at] + row[at + 1:], prices)
    for at in range(many + 1):
        for price in (-1, 0, 1):
            yield (row, prices[:at] + (price,) + prices[at:])
            yield (row, prices[:at] + tuple(here + price for here in prices[at:at + 1]) + prices[at + 1:])
        yield (row, prices[:at] + prices[at + 1:])
    yield (row[::-1], prices)
    yield (row, prices[::-1])
    yield ((), prices)


class ShowsSteps(unittest.TestCase):

    def test_written_out(self):
        self.assertIs(shows_rising(TOWN, ((2, 2), (0, 2))), True)
        self.assertIs(shows_falling(TOWN, ((1, 1, 3, 3, 3, 3), (0, 2))), True)
        self.assertIs(shows_rising(TOWN, ((1, 1, 3, 3, 3, 3), (0, 2))), False)
        self.assertIs(shows_falling(TOWN, ((2, 2), (0, 2))), False)
        # Other steps that lead as far are not those that are told.
        self.assertIs(shows_falling(TOWN, ((3, 3, 3, 3, 1, 1), (0, 2))), False)
        self.assertIs(shows_rising(((0,), ((0, 5), (0, 3))), ((1, 1, 1), (3,))), True)
        self.assertIs(shows_falling(((0,), ((0, 5), (0, 3))), ((), (5,))), True)
        # These prices meet, too, but the steps end ahead of them.
        self.assertIs(shows_rising(((0,), ((0, 5), (0, 3))), ((1, 1, 1, 1), (4,))), False)
        self.assertIs(shows_rising(((0,), ((0, 5), (0, 3))), ((1, 1), (2,))), False)
        self.assertIs(shows_rising(((0,), ((0, 5), (0, 3))), ((1, 1, 1, 0), (3,))), False)

    def test_what_steps_tell(self):
        for town in towns_of_sides(341, (2, 100)):
            for shows, steps in BOTH:
                told = steps(town)
                self.assertIs(shows(town, told), True)
                self.assertIs(shows(town, (told[0], list(told[1]))), False)
                self.assertIs(shows(town, (list(told[0]), told[1])), False)

    def test_one_is_not_the_other(self):
        for town in towns_of_sides(342, (3,), 3, 3):
            for shows, other in ((shows_rising, falling), (shows_falling, rising)):
                self.assertIs(shows(town, other(town)), rising(town) == falling(town))

    def test_nearly(self):
        for town in towns_of_sides(343, (2,), 3, 2) + [alone_town(chance(344), (0, 1, 0, 1, 0), 5, 15)]:
            for shows, steps in BOTH:
                told = steps(town)
                for thing in nearly(told, len(town[0])):
                    self.assertIs(shows(town, thing), thing == told)

    def test_a_town_that_is_not_of_its_sides(self):
        for town in [RING, ((0, 0), ((0, 0, 0, 1),)), ((0, 1), ((0, 1, 1, 1),))]:
            for shows, ends in ((shows_rising, town), (shows_falling, other_way(town))):
                self.assertIs(shows(town, ((), (0,) * len(town[0]))), False)
                # Even where steps could be taken.
                self.assertIs(shows(town, steps_of(ends)), False)
        seen = 0
        for town in towns_of_all_kinds(345, 3, 3):
            if first_strange(town) is not None:
                for shows in (shows_rising, shows_falling):
                    for price in (0, town[1][0][-1]):
                        self.assertIs(shows(town, ((), (price,) * len(town[0]))), False)
                seen += 1
        self.assertGreater(seen, 10)

    def test_anything_is_answered(self):
        for town in (TOWN, RING, ((1,), ((0, 3), (0, 2))), ((0, 1), ((0, 0, 0, 2), (0, 1, 0, 1)))):
            for strange in strange_things():
                self.assertIs(shows_rising(town, strange), False)
                self.assertIs(shows_falling(town, strange), False)
        for town in (TOWN, ((1,), ((0, 3), (0, 2))), ((0,), ((0, 0),) * 5), ((0, 1), ((0, 0, 0, 2), (0, 1, 0, 1)))):
            for shows, steps in BOTH:
                told = steps(town)
                for worse in spoiled(told):
                    like = worse == told and are_wholes(worse[0]) and are_wholes(worse[1])
                    self.assertIs(shows(town, worse), like, worse)

    def test_truths_are_no_numbers(self):
        town = ((0, 0), (some_of((1, 1), 1),) * 3)
        self.assertEqual(rising(town), ((3,), (1, 1)))
        self.assertIs(shows_rising(town, ((3,), (1, 1))), True)
        self.assertIs(shows_rising(town, ((3,), (1, True))), False)
        town = ((0,), ((0, 1), (0, 1)))
        self.assertIs(shows_rising(town, ((1,), (1,))), True)
        self.assertIs(shows_rising(town, ((True,), (1,))), False)
        self.assertIs(shows_rising(town, ((1,), (True,))), False)
        self.assertIs(shows_falling(((1,), ((0, 0),)), ((), (0,))), True)
        self.assertIs(shows_falling(((1,), ((0, 0),)), ((), (False,))), False)

    def test_another_length(self):
        told = rising(TOWN)
        for thing in ((), told[:1], told[1:], told + ((),), told[::-1], (told,), list(told), told[0] + told[1]):
            self.assertIs(shows_rising(TOWN, thing), False)

    def test_deep_nests(self):
        deep = nested(28, 0, lambda thing: (thing, thing))
        for thing in ((deep, (0, 2)), ((2, deep), (0, 2)), ((2, 2), deep), ((2, 2), (0, deep)), (deep, deep)):
            self.assertIs(shows_rising(TOWN, thing), False)
            self.assertIs(shows_falling(TOWN, thing), False)

    def test_however_great(self):
        far = 10 ** 50
        self.assertIs(shows_rising(TOWN, ((2, far), (0, 2))), False)
        self.assertIs(shows_rising(TOWN, ((2, 2), (0, far))), False)
        self.assertIs(shows_falling(TOWN, ((-far,), (0, -far))), False)

    def test_just_the_ends_do_not_do(self):
        for town in towns_of_sides(346, (4,), 3, 3):
            self.assertIs(shows_rising(town, ((), low_prices(town))), rising(town)[0] == ())
            self.assertIs(shows_falling(town, ((), high_prices(town))), falling(town)[0] == ())

    def test_by_name_again_and_unchanged(self):
        kept = [[2, 2], [0, 2]]
        self.assertIs(shows_rising(town=TOWN, thing=((2, 2), (0, 2))), True)
        self.assertIs(shows_falling(thing=falling(TOWN), town=TOWN), True)
        self.assertIs(shows_rising(TOWN, kept), False)
        self.assertEqual(kept, [[2, 2], [0, 2]])


if __name__ == "__main__":
    unittest.main()
