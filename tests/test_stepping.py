"""Points 19 and 20: steps from below and from above; 3 (d): where they end, and in how many."""

import unittest

from tests.samples import (
    RING, alone_town, all_told, all_wants, are_wholes, chance, falls, greatest_difference, number_of,
    plain_first_prices, plain_meets, plain_step, plain_stepped, plain_steps, set_of, some_sides, towns_of_all_kinds,
    towns_of_sides,
)
from wantprices.bounds import high_prices, low_prices
from wantprices.errors import Beyond, NoLine, NoText, NotOfKind, WantError
from wantprices.kinds import breaking, first_strange
from wantprices.made import alone, joined, paired, some_of
from wantprices.meetings import are_meeting, surplus
from wantprices.stepping import falling, rising
from wantprices.sums import best_dealing, greatest

BOTH = (("below", rising, low_prices), ("above", falling, high_prices))

# Hand 0 wants one thing, hand 1 the second one.
TOWN = ((0, 0), ((0, 4, 6, 6), (0, 0, 2, 2)))


class Steps(unittest.TestCase):

    def test_one_thing_and_two_hands(self):
        wants = ((0, 5), (0, 3))
        self.assertEqual(rising(((0,), wants)), ((1, 1, 1), (3,)))
        self.assertEqual(falling(((0,), wants)), ((), (5,)))
        self.assertEqual(rising(((1,), wants)), ((), (5,)))
        self.assertEqual(falling(((1,), wants)), ((1, 1, 1), (3,)))

    def test_one_thing_and_one_hand(self):
        self.assertEqual(rising(((0,), ((0, 4),))), ((), (0,)))
        self.assertEqual(falling(((0,), ((0, 4),))), ((), (4,)))
        self.assertEqual(rising(((1,), ((0, 4),))), ((), (4,)))
        self.assertEqual(falling(((1,), ((0, 4),))), ((), (0,)))

    def test_two_things(self):
        # At (0, 0) and (0, 1) both hands want the thing 1 alone; at (0, 2) hand 0 takes either.
        self.assertEqual(rising(TOWN), ((2, 2), (0, 2)))
        # From (6, 6) the thing 0 falls by itself till hand 0 would take it as gladly as the other one, then both do.
        self.assertEqual(falling(TOWN), ((1, 1, 3, 3, 3, 3), (0, 2)))

    def test_things_of_unlike_sides(self):
        town = ((0, 1), (paired((0, 1), ((0, 1, 6),)), paired((0, 1), ((0, 1, 4),))))
        self.assertEqual(rising(town), ((), (0, 6)))
        self.assertEqual(falling(town), ((), (6, 0)))
        # With another hand that wants the thing 0 for itself it has to cost as much as this one gives.
        more = (town[0], town[1] + (alone((2, 0)),))
        self.assertEqual(rising(more), ((3, 3), (2, 4)))
        self.assertEqual(falling(more), ((), (6, 0)))
        # And with one that wants the thing 1 for itself.
        less = (town[0], town[1] + (alone((0, 2)),))
        self.assertEqual(rising(less), ((), (0, 6)))
        self.assertEqual(falling(less), ((3, 3), (4, 2)))

    def test_three_hands_want_one_of_two(self):
        wants = (some_of((3, 3), 1),) * 3
        self.assertEqual(rising(((0, 0), wants)), ((3, 3, 3), (3, 3)))
        self.assertEqual(falling(((0, 0), wants)), ((), (3, 3)))
        self.assertEqual(rising(((0, 0), wants[:2])), ((), (0, 0)))
        self.assertEqual(falling(((0, 0), wants[:2])), ((), (3, 3)))

    def test_all_of_side_1_is_the_other_way_about(self):
        wants = (some_of((3, 3), 1),) * 3 + (alone((1, 0)),)
        for here in (wants, wants[:2], wants[2:], TOWN[1]):
            self.assertEqual(rising(((1, 1), here)), falling(((0, 0), here)))
            self.assertEqual(falling(((1, 1), here)), rising(((0, 0), here)))

    def test_worth_nothing(self):
        for many in range(1, 6):
            for hands in range(1, 6):
                for sides in ((0,) * many, (1,) * many):
                    town = (sides, ((0,) * 2 ** many,) * hands)
                    self.assertEqual(rising(town), ((), (0,) * many))
                    self.assertEqual(falling(town), ((), (0,) * many))

    def test_each_thing_by_itself(self):
        source = chance(301)
        for many in range(1, 6):
            for hands in range(1, 6):
                sides = some_sides(source, many)
                town = alone_town(source, sides, hands)
                worths = [sorted([want[2 ** thing] for want in town[1]] + [0])[::-1] for thing in range(many)]
                for way, steps, _ in BOTH:
                    first = plain_first_prices(town, way)
                    # What falls stops at the greatest worth, what rises at the second one.
                    last = tuple(
                        worths[thing][0 if falls(side, way) else 1] for thing, side in enumerate(sides)
                    )
                    far = [abs(one - other) for one, other in zip(first, last)]
                    row = tuple(number_of(t for t in range(many) if far[t] > at) for at in range(max(far)))
                    self.assertEqual(steps(town), (row, last))

    def test_against_the_words(self):
        for town in towns_of_sides(302, (2, 6), 4, 4) + towns_of_sides(303, (2,))[-12:]:
            for way, steps, _ in BOTH:
                told = steps(town)
                self.assertTrue(all_told(told))
                self.assertTrue(are_wholes(told[0]) and are_wholes(told[1]))
                self.assertEqual(told, plain_steps(town, plain_first_prices(town, way), way))

    def test_all_small_towns_of_their_sides(self):
        seen = 0
        wants = all_wants(2, 3)
        for sides in ((0, 0), (0, 1), (1, 1)):
            here = [want for want in wants if breaking(want, sides) is None]
            for one in here:
                for other in here[::3]:
                    town = (sides, (one, other))
                    for way, steps, _ in BOTH:
                        self.assertEqual(steps(town), plain_steps(town, plain_first_prices(town, way), way))
                        seen += 1
        self.assertGreater(seen, 500)

    def test_of_what_is_made(self):
        source = chance(304)
        sides = (0, 1, 0, 1)
        for hands in range(1, 4):
            wants = []
            for _ in range(hands):
                rows = tuple((i, j, source.randint(0, 8)) for i in (0, 2) for j in (1, 3))
                wants.append(joined(alone(tuple(source.randint(0, 2) for _ in sides)), paired(sides, rows)))
            town = (sides, tuple(wants))
            for way, steps, ends in BOTH:
                told = steps(town)
                self.assertEqual(told, plain_steps(town, plain_first_prices(town, way), way))
                self.assertEqual(told[1], ends(town))

    def test_some_steps_of_great_towns_against_the_words(self):
        source = chance(305)
        for town in towns_of_sides(306, (150,))[-15:]:
            for way, steps, _ in BOTH:
                row, last = steps(town)
                places = sorted(source.sample(range(len(row)), min(3, len(row))))
                prices = plain_first_prices(town, way)
                for at, heap in enumerate(row):
                    if at in places:
                        self.assertEqual(plain_step(town, prices, way), set_of(heap))
                    prices = plain_stepped(town, prices, set_of(heap), way)
                self.assertEqual(prices, last)
                self.assertEqual(plain_step(town, prices, way), frozenset())


class Ends(unittest.TestCase):

    def test_ends_count_and_meeting(self):
        kinds = set()
        for town in towns_of_sides(311, (2, 9, 200)):
            ends = []
            for way, steps, end in BOTH:
                row, prices = steps(town)
                self.assertEqual(prices, end(town))
                self.assertEqual(len(row), greatest_difference(plain_first_prices(town, way), prices))
                self.assertIs(are_meeting(town, 1, prices), True)
                self.assertEqual(surplus(town, 1, prices), greatest(town))
                self.assertTrue(plain_meets(town, 1, prices, best_dealing(town)))
                self.assertNotIn(0, row)
                ends.append(prices)
                kinds.add((way, len(row) > 0))
            kinds.add(ends[0] == ends[1])
        self.assertEqual(len(kinds), 6)

    def test_the_surplus_sinks_in_each_step(self):
        for town in towns_of_sides(312, (5,), 3, 3):
            for way, steps, _ in BOTH:
                prices = plain_first_prices(town, way)
                before = surplus(town, 1, prices)
                for heap in steps(town)[0]:
                    prices = plain_stepped(town, prices, set_of(heap), way)
                    self.assertLess(surplus(town, 1, prices), before)
                    before = surplus(town, 1, prices)

    def test_worths_somewhat_beyond(self):
        town = ((0,), ((0, 3000), (0, 2500)))
        self.assertEqual(rising(town), ((1,) * 2500, (2500,)))
        self.assertEqual(falling(town), ((), (3000,)))
        six = ((0,) * 6, (some_of((2,) * 6, 1),) * 7)
        self.assertEqual(rising(six), ((63, 63), (2,) * 6))


class Refused(unittest.TestCase):

    def refusal(self, steps, town):
        with self.assertRaises(WantError) as caught:
            steps(town)
        self.assertIs(type(caught.exception), NotOfKind)
        for other in (Beyond, NoText, NoLine):
            self.assertNotIsInstance(caught.exception, other)
        return caught.exception.hand

    def test_written_out(self):
        fine, broken = (0, 1, 1, 1), (0, 0, 0, 1)
        for steps in (rising, falling):
            self.assertEqual(self.refusal(steps, RING), 0)
            self.assertEqual(self.refusal(steps, ((0, 0), (fine, broken))), 1)
            self.assertEqual(self.refusal(steps, ((0, 0), (fine, fine, broken, fine, broken))), 2)
            # Of unlike sides it is the other one that is not of them.
            self.assertEqual(self.refusal(steps, ((0, 1), (broken, fine))), 1)
            self.assertEqual(self.refusal(steps, ((1, 1), (fine, broken))), 1)

    def test_where_three_alone_break(self):
        # Two of the three things cover one place, the third another one: no pair breaks it.
        covered = tuple(2 * (heap & 3 != 0) + (heap & 5 != 0) + (heap & 4 != 0) for heap in range(8))
        self.assertEqual(breaking(covered, (0, 0, 0))[0], "three")
        for steps in (rising, falling):
            self.assertEqual(self.refusal(steps, ((0, 0, 0), ((0,) * 8, covered))), 1)

    def test_just_where_there_is_a_strange_hand(self):
        seen = []
        for town in towns_of_all_kinds(321, 3, 3):
            if max(want[-1] for want in town[1]) > 100:
                continue
            strange = first_strange(town)
            for _, steps, ends in BOTH:
                if strange is None:
                    self.assertEqual(steps(town)[1], ends(town))
                else:
                    self.assertEqual(self.refusal(steps, town), strange)
            seen.append(strange)
        self.assertGreater(len(set(seen)), 2)

    def test_by_name_again_and_unchanged(self):
        self.assertEqual(rising(town=TOWN), rising(TOWN))
        self.assertEqual(falling(town=TOWN), falling(TOWN))
        self.assertEqual(TOWN, ((0, 0), ((0, 4, 6, 6), (0, 0, 2, 2))))


if __name__ == "__main__":
    unittest.main()
