"""Points 16 and 17: the lookers for shares; 3 (b): no prices meet where one shows it."""

import unittest

from tests.samples import (
    RING, are_wholes_at_least, chance, nested, plain_are_shares, plain_greatest, plain_shares_worth, set_of, some_town,
    spoiled, strange_things, towns_of_all_kinds,
)
from wantprices.meetings import are_meeting, surplus
from wantprices.sharelooks import shows_none, shows_shares
from wantprices.sharing import shares

# Hand 0 wants one of the two, hand 1 wants both or none.
TOWN = ((0, 0), ((0, 4, 6, 6), (0, 0, 0, 9)))
HALVES = (2, ((0, 1, 1), (0, 2, 1), (1, 3, 1)))
ROUND = (2, ((0, 3, 1), (1, 5, 1), (2, 6, 1)))
ALL = (TOWN, RING, ((0,), ((0, 5), (0, 3))), ((1,), ((0, 0),)))


def plain_shows_none(town, thing):
    if type(thing) is not tuple or len(thing) != 2 or not plain_are_shares(town, *thing):
        return False
    return plain_shares_worth(town, thing[1]) > thing[0] * plain_greatest(town)


def plain_shows_shares(town, thing):
    if type(thing) is not tuple or len(thing) != 4 or not plain_are_shares(town, *thing[:2]):
        return False
    by, rows, numbers, gains = thing
    if not are_wholes_at_least(numbers, 0) or len(numbers) != len(town[0]):
        return False
    if not are_wholes_at_least(gains, 0) or len(gains) != len(town[1]):
        return False
    for want, gain in zip(town[1], gains):
        if any(gain + sum(numbers[at] for at in set_of(heap)) < by * worth for heap, worth in enumerate(want)):
            return False
    return plain_shares_worth(town, rows) == sum(gains) + sum(numbers)


def nearly(value):
    """All that comes of a nested tuple by one number that is one less or one more."""
    if isinstance(value, int):
        return [value - 1, value + 1]
    return [
        value[:at] + (other,) + value[at + 1:]
        for at, part in enumerate(value) for other in nearly(part)
    ]


class ShowsNone(unittest.TestCase):

    def test_written_out(self):
        self.assertIs(shows_none(TOWN, HALVES), True)
        self.assertIs(shows_none(RING, ROUND), True)
        self.assertIs(shows_none(RING, (4, ((0, 3, 2), (1, 5, 2), (2, 6, 2)))), True)
        self.assertIs(shows_none(RING, (4, ((0, 3, 2), (1, 5, 2), (2, 6, 1)))), True)
        # Worth just as much as the best dealing shows nothing.
        self.assertIs(shows_none(RING, (4, ((0, 3, 2), (1, 5, 1), (2, 6, 1)))), False)
        self.assertIs(shows_none(RING, (1, ((0, 3, 1),))), False)
        self.assertIs(shows_none(RING, (2, ((0, 3, 1), (1, 5, 1)))), False)

    def test_no_rows(self):
        for town in ALL:
            for by in (1, 2, 10 ** 30):
                self.assertIs(shows_none(town, (by, ())), False)

    def test_bounds(self):
        # Of thing 0 there would be three halves, of hand 0 likewise.
        self.assertIs(shows_none(RING, (2, ((0, 3, 2), (1, 5, 1), (2, 6, 1)))), False)
        self.assertIs(shows_none(TOWN, (2, ((0, 1, 1), (0, 2, 1), (1, 3, 2)))), False)
        wide = ((0, 0, 0), ((0, 9, 9, 9, 9, 9, 9, 9),))
        self.assertIs(shows_none(wide, (1, ((0, 1, 1), (0, 2, 1)))), False)
        self.assertIs(shows_none(wide, (2, ((0, 1, 1), (0, 2, 1), (0, 4, 1)))), False)

    def test_order_and_likes(self):
        by, rows = HALVES
        for order in (rows[::-1], (rows[1], rows[0], rows[2]), (rows[0], rows[2], rows[1])):
            self.assertIs(shows_none(TOWN, (by, order)), False)
        # Hand and heap of two alike, whether or not the tuples rise.
        self.assertIs(shows_none(TOWN, (4, ((0, 1, 2), (0, 2, 2), (1, 3, 2)))), True)
        self.assertIs(shows_none(TOWN, (4, ((0, 1, 1), (0, 1, 1), (0, 2, 2), (1, 3, 2)))), False)
        self.assertIs(shows_none(TOWN, (6, ((0, 1, 1), (0, 1, 2), (0, 2, 3), (1, 3, 3)))), False)
        self.assertIs(shows_none(TOWN, (6, ((0, 1, 3), (0, 2, 3), (1, 3, 1), (1, 3, 2)))), False)

    def test_rows_that_are_none(self):
        by, rows = HALVES
        for row in ((0, 1), (0, 1, 1, 1), (), (0, 0, 1), (0, 4, 1), (0, -1, 1), (2, 1, 1), (-1, 1, 1), (0, 1, 0),
                    (0, 1, -1), [0, 1, 1], (False, 1, 1), (0, True, 1), (0, 1, True), None, 0, "011", (0, 1, "1")):
            self.assertIs(shows_none(TOWN, (by, (row,) + rows[1:])), False)
            self.assertIs(shows_none(TOWN, (by, (row,) + rows)), False)
            self.assertIs(shows_none(TOWN, (by, rows + (row,))), False)

    def test_a_row_more_in_its_place(self):
        by, rows = HALVES
        for row in ((1, 1, 0), (1, 2, 0), (1, 0, 1), (1, 1, -1), (1, 2, -1), (1, -4, 1)):
            self.assertIs(shows_none(TOWN, (by, rows[:2] + (row,) + rows[2:])), False)
        self.assertIs(shows_none(TOWN, (2 * by, ((0, 1, 2), (0, 2, 2), (1, 1, 1), (1, 3, 1)))), False)
        self.assertIs(shows_none(RING, (4, ((0, 3, 2), (1, 5, 2), (2, 2, 1), (2, 6, 1)))), True)
        self.assertIs(shows_none(RING, (4, ((0, 3, 2), (1, 5, 2), (2, 0, 1), (2, 6, 1)))), False)
        self.assertIs(shows_none(RING, (4, ((0, 3, 2), (1, 5, 2), (2, 2, 0), (2, 6, 1)))), False)

    def test_by(self):
        for by in (0, -1, -2, True, None, "2", (2,), 1):
            self.assertIs(shows_none(TOWN, (by, HALVES[1])), False)
        # By three the same parts are worth less than three times the greatest sum.
        self.assertIs(shows_none(TOWN, (3, HALVES[1])), False)

    def test_another_length(self):
        for thing in ((), HALVES[:1], HALVES + (0,), HALVES[::-1], ("none",) + HALVES):
            self.assertIs(shows_none(TOWN, thing), False)
        for thing in (list(HALVES), (2, list(HALVES[1])), (2, tuple(list(row) for row in HALVES[1]))):
            self.assertIs(shows_none(TOWN, thing), False)

    def test_nearly(self):
        seen = []
        for town, thing in ((TOWN, HALVES), (RING, ROUND), (RING, (7, ((0, 3, 3), (1, 5, 3), (2, 6, 3))))):
            for other in nearly(thing):
                told = shows_none(town, other)
                self.assertIs(told, plain_shows_none(town, other))
                seen.append(told)
        self.assertGreater(seen.count(True), 1)
        self.assertGreater(seen.count(False), 20)

    def test_in_towns_of_all_kinds(self):
        source = chance(201)
        seen = []
        for town in towns_of_all_kinds(202, 5, 3):
            by, rows = shares(town)[:2]
            told = shows_none(town, (by, rows))
            self.assertIs(told, plain_shows_none(town, (by, rows)))
            seen.append(told)
            if told:
                # Then no prices meet: whatever they are, gains and prices are together no less.
                for other_by in (1, by, 3 * by):
                    numbers = tuple(source.randint(0, 1000 * other_by) for _ in town[0])
                    self.assertIs(are_meeting(town, other_by, numbers), False)
                    least = other_by * plain_shares_worth(town, rows)
                    self.assertGreaterEqual(by * surplus(town, other_by, numbers), least)
        self.assertGreater(seen.count(True), 5)
        self.assertGreater(seen.count(False), 5)

    def test_five_things_and_hands(self):
        # Five hands, each of which wants another two of five things in a ring.
        pairs = [2 ** thing + 2 ** ((thing + 1) % 5) for thing in range(5)]
        wants = tuple(tuple(1000 * (heap & pair == pair) for heap in range(32)) for pair in pairs)
        rows = tuple((hand, pair, 1) for hand, pair in enumerate(pairs))
        self.assertIs(shows_none(((0,) * 5, wants), (2, rows)), True)
        self.assertIs(shows_none(((0,) * 5, wants), (2, rows[1:])), False)

    def test_however_great(self):
        far = 10 ** 50
        self.assertIs(shows_none(RING, (2 * far, ((0, 3, far), (1, 5, far), (2, 6, far)))), True)
        self.assertIs(shows_none(RING, (2 * far, ((0, 3, far + 1), (1, 5, far), (2, 6, far)))), False)
        self.assertIs(shows_none(RING, (2 * far, ((0, 3, far), (1, 5, far), (2, 6, 1)))), True)
        self.assertIs(shows_none(RING, (2, ((0, 3, 1), (1, 5, 1), (2, far, 1)))), False)

    def test_anything_is_answered(self):
        for town, told in ((TOWN, HALVES), (RING, ROUND)):
            for strange in strange_things():
                self.assertIs(shows_none(town, strange), False)
            for worse in spoiled(told):
                self.assertIs(shows_none(town, worse), plain_shows_none(town, worse), worse)

    def test_deep_nests(self):
        deep = nested(27, 1, lambda thing: (thing, thing))
        for thing in ((deep, HALVES[1]), (2, deep), (2, (deep,)), (2, HALVES[1] + (deep,)), (2, ((0, 1, deep),))):
            self.assertIs(shows_none(TOWN, thing), False)

    def test_by_name_again_and_unchanged(self):
        kept = [2, [[0, 1, 1], [0, 2, 1], [1, 3, 1]]]
        self.assertIs(shows_none(town=TOWN, thing=HALVES), True)
        self.assertIs(shows_none(thing=kept, town=TOWN), False)
        self.assertEqual(kept, [2, [[0, 1, 1], [0, 2, 1], [1, 3, 1]]])


class ShowsShares(unittest.TestCase):

    def test_written_out(self):
        # By 2 the halves are worth 19: at 7 and 11 hand 0 gains 1 and hand 1 nothing; at 8 and 10 it is 20 in all.
        self.assertIs(shows_shares(TOWN, HALVES + ((7, 11), (1, 0))), True)
        self.assertIs(shows_shares(TOWN, HALVES + ((8, 10), (2, 0))), False)
        self.assertIs(shows_shares(TOWN, HALVES + ((8, 10), (1, 0))), False)
        self.assertIs(shows_shares(TOWN, HALVES + ((7, 11), (0, 0))), False)
        self.assertIs(shows_shares(TOWN, HALVES + ((7, 11), (1, 1))), False)
        self.assertIs(shows_shares(RING, ROUND + ((1, 1, 1), (0, 0, 0))), True)
        self.assertIs(shows_shares(RING, ROUND + ((0, 0, 0), (1, 1, 1))), False)
        self.assertIs(shows_shares(((0,), ((0, 5), (0, 3))), (1, ((0, 1, 1),), (3,), (2, 0))), True)
        self.assertIs(shows_shares(((0,), ((0, 5), (0, 3))), (1, ((0, 1, 1),), (5,), (0, 0))), True)
        self.assertIs(shows_shares(((0,), ((0, 5), (0, 3))), (1, ((0, 1, 1),), (2,), (3, 0))), False)
        self.assertIs(shows_shares(((1,), ((0, 0),)), (1, (), (0,), (0,))), True)
        self.assertIs(shows_shares(((1,), ((0, 0),)), (9, ((0, 1, 9),), (0,), (0,))), True)

    def test_numbers_and_gains_from_nought_on(self):
        town = ((0,), ((0, 5), (0, 3)))
        self.assertIs(shows_shares(town, (1, ((0, 1, 1),), (6,), (-1, 0))), False)
        self.assertIs(shows_shares(((0,), ((0, 0),)), (1, (), (-1,), (1,))), False)
        self.assertIs(shows_shares(((0,), ((0, 0),)), (1, (), (1,), (-1,))), False)

    def test_shares_that_are_none(self):
        told = HALVES + ((7, 11), (1, 0))
        by, rows, numbers, gains = told
        self.assertIs(shows_shares(TOWN, (by, rows[::-1], numbers, gains)), False)
        self.assertIs(shows_shares(TOWN, (by, list(rows), numbers, gains)), False)
        self.assertIs(shows_shares(TOWN, (by, (rows[0],) + rows, numbers, gains)), False)
        self.assertIs(shows_shares(TOWN, (0, (), (0, 0), (0, 0))), False)
        # By 1 the same rows go beyond the bounds.
        self.assertIs(shows_shares(TOWN, (1, rows, numbers, gains)), False)
        self.assertIs(shows_shares(TOWN, (2, ((0, 2, 2), (1, 3, 2)), (12, 18), (0, 0))), False)

    def test_another_length(self):
        told = HALVES + ((7, 11), (1, 0))
        for thing in ((), told[:2], told[:3], told + (0,), list(told)):
            self.assertIs(shows_shares(TOWN, thing), False)
        for numbers in ([7, 11], (7, 11, 0), (18,), (), 18):
            self.assertIs(shows_shares(TOWN, HALVES + (numbers, (1, 0))), False)
        for gains in ([1, 0], (1,), (1, 0, 0), (), 1):
            self.assertIs(shows_shares(TOWN, HALVES + ((7, 11), gains)), False)

    def test_nearly(self):
        seen = []
        for town in ALL + (some_town(chance(211), 3, 2, 9),):
            told = shares(town)
            for other in nearly(told):
                fits = shows_shares(town, other)
                self.assertIs(fits, plain_shows_shares(town, other))
                seen.append(fits)
        self.assertGreater(seen.count(False), 40)

    def test_in_towns_of_all_kinds(self):
        source = chance(212)
        for town in towns_of_all_kinds(213):
            by, rows, numbers, gains = shares(town)
            self.assertIs(shows_shares(town, (by, rows, numbers, gains)), True)
            # What is moved from a gain to a number, or to another by, is looked at anew.
            at = source.randrange(len(numbers))
            moved = numbers[:at] + (numbers[at] + 1,) + numbers[at + 1:]
            lesser = (gains[0] - 1,) + gains[1:]
            for thing in ((by, rows, moved, lesser), (by, rows[1:], numbers, gains), (by + 1, rows, numbers, gains)):
                self.assertIs(shows_shares(town, thing), plain_shows_shares(town, thing))

    def test_however_great(self):
        far = 10 ** 50
        for town in ALL:
            by, rows, numbers, gains = shares(town)
            rows = tuple((hand, heap, far * part) for hand, heap, part in rows)
            numbers, gains = tuple(far * number for number in numbers), tuple(far * gain for gain in gains)
            self.assertIs(shows_shares(town, (far * by, rows, numbers, gains)), True)
            self.assertIs(shows_shares(town, (far * by, rows, numbers, (gains[0] + 1,) + gains[1:])), False)

    def test_anything_is_answered(self):
        for town in ALL:
            told = shares(town)
            for strange in strange_things():
                self.assertIs(shows_shares(town, strange), False)
            for worse in spoiled(told):
                self.assertIs(shows_shares(town, worse), plain_shows_shares(town, worse), worse)

    def test_deep_nests(self):
        deep = nested(27, 1, lambda thing: (thing, thing))
        for at in range(4):
            told = HALVES + ((7, 11), (1, 0))
            self.assertIs(shows_shares(TOWN, told[:at] + (deep,) + told[at + 1:]), False)

    def test_none_are_worth_more(self):
        source = chance(214)
        for town in towns_of_all_kinds(215, 4, 3):
            by, rows = shares(town)[:2]
            best = plain_shares_worth(town, rows)
            places = [(hand, heap) for hand in range(len(town[1])) for heap in range(1, len(town[1][0]))]
            for _ in range(5):
                other_by = source.randint(1, 4)
                some = source.sample(places, min(3, len(places)))
                others = tuple(place + (1,) for place in sorted(some))
                if plain_are_shares(town, other_by, others):
                    self.assertLessEqual(by * plain_shares_worth(town, others), other_by * best)

    def test_by_name_again_and_unchanged(self):
        told = HALVES + ((7, 11), (1, 0))
        self.assertIs(shows_shares(town=TOWN, thing=told), True)
        self.assertIs(shows_shares(thing=told, town=TOWN), True)
        kept = [2, [[0, 1, 1]], [7, 11], [1, 0]]
        self.assertIs(shows_shares(TOWN, kept), False)
        self.assertEqual(kept, [2, [[0, 1, 1]], [7, 11], [1, 0]])


if __name__ == "__main__":
    unittest.main()
