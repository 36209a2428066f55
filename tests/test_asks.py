"""Point 26: what best heaps ask for, by how much a step changes the surplus, and which step they tell."""

import unittest

from tests.samples import (
    RING, all_prices_kinds, are_wholes, chance, falls, number_of, parts_of, plain_best_heaps, plain_first_prices,
    plain_step, plain_stepped, plain_surplus, set_of, some_prices, towns_of_all_kinds, towns_of_sides,
)
from wantprices.asks import asked, asked_step, change
from wantprices.errors import NotOfKind, WantError
from wantprices.kinds import first_strange
from wantprices.made import alone, paired
from wantprices.stepping import falling, rising

WAYS = ("below", "above")

# Hand 0 wants one thing, hand 1 the second one.
TOWN = ((0, 0), ((0, 4, 6, 6), (0, 0, 2, 2)))


def plain_dearer(sides, heap, way):
    """How many things of a frozenset a step makes dearer, less how many it makes cheaper."""
    return sum(-1 if falls(sides[thing], way) else 1 for thing in heap)


def plain_asked(town, prices, heap, way):
    """What is asked, by the document's own words."""
    told = []
    for want in town[1]:
        numbers = []
        for best in plain_best_heaps(want, prices):
            ones = len([thing for thing in best & set_of(heap) if town[0][thing] == 1])
            noughts = len([thing for thing in best & set_of(heap) if town[0][thing] == 0])
            numbers.append(ones - noughts if way == "below" else noughts - ones)
        told.append(max(numbers))
    return tuple(told)


def behind(town, prices, heap, way):
    """The prices behind a step, below 0 or not."""
    far = 10 ** 9
    moved = plain_stepped(town, tuple(price + far for price in prices), set_of(heap), way)
    return tuple(price - far for price in moved)


class Asked(unittest.TestCase):

    def test_from_below(self):
        # At nought both hands take the thing 1, and do not care for 0.
        told = [asked(TOWN, (0, 0), heap, "below") for heap in range(4)]
        self.assertEqual(told, [(0, 0), (0, 0), (-1, -1), (-1, -1)])
        self.assertEqual([change(TOWN, (0, 0), heap, "below") for heap in range(4)], [0, 1, -1, 0])
        self.assertEqual(asked_step(TOWN, (0, 0), "below"), 2)
        self.assertEqual(asked_step(TOWN, (0, 2), "below"), 0)

    def test_from_above(self):
        # At (6, 6) hand 0 takes nothing or the thing 1.
        self.assertEqual([asked(TOWN, (6, 6), heap, "above") for heap in range(4)], [(0, 0), (0, 0), (1, 0), (1, 0)])
        self.assertEqual([change(TOWN, (6, 6), heap, "above") for heap in range(4)], [0, -1, 0, -1])
        self.assertEqual(asked_step(TOWN, (6, 6), "above"), 1)
        self.assertEqual(asked_step(TOWN, (0, 2), "above"), 0)

    def test_unlike_sides(self):
        sides = (0, 1)
        town = (sides, (paired(sides, ((0, 1, 6),)), paired(sides, ((0, 1, 4),)), alone((2, 0))))
        # At (0, 6) hand 0 takes all that costs at most what it is worth, hand 2 the thing 0.
        self.assertEqual(asked(town, (0, 6), 3, "below"), (0, 0, -1))
        self.assertEqual(asked(town, (0, 6), 1, "below"), (0, 0, -1))
        self.assertEqual(asked(town, (0, 6), 2, "below"), (1, 0, 0))
        self.assertEqual([change(town, (0, 6), heap, "below") for heap in range(4)], [0, 0, 0, -1])
        self.assertEqual(asked_step(town, (0, 6), "below"), 3)
        self.assertEqual(asked(town, (0, 6), 3, "above"), (1, 1, 1))
        self.assertEqual(change(town, (0, 6), 3, "above"), 3)

    def test_which_may(self):
        # A thing that costs nothing may not be made cheaper, whatever would be gained.
        town = ((1,), ((0, 0), (0, 0)))
        self.assertEqual(asked_step(town, (0,), "below"), 0)
        self.assertEqual(asked_step(town, (1,), "below"), 1)
        self.assertEqual(asked_step(town, (0,), "above"), 0)
        self.assertEqual(asked_step(((0,), town[1]), (0,), "above"), 0)
        self.assertEqual(asked_step(((0,), town[1]), (1,), "above"), 1)

    def test_a_town_that_is_not_of_its_sides(self):
        # Both together are worth 1: one step of both prices loses it, but the best heap tells nothing of that.
        town = ((0, 0), ((0, 0, 0, 1),))
        self.assertEqual(asked(town, (0, 0), 3, "below"), (-2,))
        self.assertEqual(change(town, (0, 0), 3, "below"), 0)
        self.assertEqual(plain_surplus(town, 1, (1, 1)) - plain_surplus(town, 1, (0, 0)), 1)
        self.assertEqual(asked(RING, (0, 0, 0), 7, "below"), (-2, -2, -2))
        self.assertEqual(change(RING, (0, 0, 0), 7, "below"), -3)

    def test_against_the_words_in_any_town(self):
        source = chance(501)
        for town in towns_of_all_kinds(502):
            many = len(town[0])
            for prices in all_prices_kinds(source, many)[:3] + [some_prices(source, many)]:
                heap = source.randrange(2 ** many)
                for way in WAYS:
                    told = asked(town, prices, heap, way)
                    self.assertTrue(are_wholes(told))
                    self.assertEqual(told, plain_asked(town, prices, heap, way))
                    changes = change(town, prices, heap, way)
                    self.assertIs(type(changes), int)
                    self.assertEqual(changes, sum(told) + plain_dearer(town[0], set_of(heap), way))

    def test_small_towns_at_all_heaps(self):
        source = chance(503)
        for town in towns_of_all_kinds(504, 3, 3):
            many = len(town[0])
            prices = some_prices(source, many, 2)
            for heap in range(2 ** many):
                for way in WAYS:
                    self.assertEqual(asked(town, prices, heap, way), plain_asked(town, prices, heap, way))

    def test_in_a_town_of_its_sides_the_surplus_changes_by_so_much(self):
        source = chance(505)
        for town in towns_of_sides(506, (2, 9)):
            many = len(town[0])
            for most in (3, 12):
                prices = some_prices(source, many, most)
                for heap in source.sample(range(2 ** many), min(4, 2 ** many)):
                    for way in WAYS:
                        grown = plain_surplus(town, 1, behind(town, prices, heap, way)) - plain_surplus(town, 1, prices)
                        self.assertEqual(change(town, prices, heap, way), grown)

    def test_by_name_again_and_unchanged(self):
        prices = (0, 0)
        self.assertEqual(asked(way="below", heap=2, prices=prices, town=TOWN), (-1, -1))
        self.assertEqual(change(way="below", heap=2, prices=prices, town=TOWN), -1)
        self.assertEqual(asked_step(way="below", prices=prices, town=TOWN), 2)
        self.assertEqual((prices, TOWN), ((0, 0), ((0, 0), ((0, 4, 6, 6), (0, 0, 2, 2)))))


class AskedStep(unittest.TestCase):

    def test_each_step_of_all_ways(self):
        for town in towns_of_sides(511, (3,)):
            for way, steps in (("below", rising), ("above", falling)):
                prices = plain_first_prices(town, way)
                row, last = steps(town)
                for heap in row:
                    told = asked_step(town, prices, way)
                    self.assertIs(type(told), int)
                    self.assertEqual(told, heap)
                    prices = plain_stepped(town, prices, set_of(heap), way)
                self.assertEqual(asked_step(town, last, way), 0)

    def test_against_the_words_from_any_prices(self):
        source = chance(512)
        seen = set()
        for town in towns_of_sides(513, (2, 7)):
            for most in (1, 8):
                prices = tuple(source.randint(0, most) for _ in town[0])
                for way in WAYS:
                    told = asked_step(town, prices, way)
                    self.assertEqual(told, number_of(plain_step(town, prices, way)))
                    seen.add(told)
        self.assertGreater(len(seen), 15)

    def test_the_one_within_all_others(self):
        source = chance(514)
        for town in towns_of_sides(515, (2,), 3, 3):
            prices = tuple(source.randint(0, 3) for _ in town[0])
            for way in WAYS:
                may = [
                    heap for heap in parts_of(range(len(town[0]))) if plain_stepped(town, prices, heap, way) is not None
                ]
                changes = {heap: change(town, prices, number_of(heap), way) for heap in may}
                best = [heap for heap in may if changes[heap] == min(changes.values())]
                told = set_of(asked_step(town, prices, way))
                self.assertIn(told, best)
                self.assertTrue(all(told <= heap for heap in best))

    def test_refused(self):
        fine, broken = (0, 1, 1, 1), (0, 0, 0, 1)
        for town, hand in ((RING, 0), (((0, 0), (fine, broken)), 1), (((0, 1), (broken, broken, fine)), 2)):
            for way in WAYS:
                with self.assertRaises(WantError) as caught:
                    asked_step(town, (0,) * len(town[0]), way)
                self.assertIs(type(caught.exception), NotOfKind)
                self.assertEqual(caught.exception.hand, hand)

    def test_refused_just_where_there_is_a_strange_hand(self):
        seen = set()
        for town in towns_of_all_kinds(516, 3, 3):
            strange = first_strange(town)
            seen.add(strange)
            for way in WAYS:
                if strange is None:
                    self.assertIn(asked_step(town, (1,) * len(town[0]), way), range(2 ** len(town[0])))
                else:
                    with self.assertRaises(NotOfKind) as caught:
                        asked_step(town, (1,) * len(town[0]), way)
                    self.assertEqual(caught.exception.hand, strange)
        self.assertGreater(len(seen), 2)


if __name__ == "__main__":
    unittest.main()
