"""Point 15: prices in parts, and whether they meet; 3 (a): with which dealings; 3 (e): the middle of two that meet."""

import unittest
from itertools import product

from tests.samples import (
    RING, all_dealings, are_wholes, are_wholes_at_least, chance, clustered_town, nested, plain_greatest, plain_meets,
    plain_sum, plain_surplus, some_town, spoiled, strange_things, town_of_sides, towns_of_all_kinds,
)
from wantprices.finding import meeting
from wantprices.meetings import are_meeting, meets, shows_meeting, surplus
from wantprices.sums import best_dealing, greatest

# Hand 0 wants one thing, hand 1 the second one: who of them has it makes no odds, so (0, 2) alone meets.
TOWN = ((0, 0), ((0, 4, 6, 6), (0, 0, 2, 2)))


def small_towns(seed):
    """Towns of few dealings and small worths."""
    source = chance(seed)
    makes = (some_town, town_of_sides, clustered_town)
    return [make(source, many, hands, 2) for many in (1, 2, 3) for hands in (1, 2, 3) for make in makes]


def some_numbers(source, many, most):
    return tuple(source.randint(0, most) for _ in range(many))


class Meets(unittest.TestCase):

    def test_one_thing_and_two_hands(self):
        town = ((0,), ((0, 5), (0, 3)))
        for price in range(8):
            self.assertIs(meets(town, 1, (price,), (0,)), 3 <= price <= 5)
            self.assertIs(meets(town, 1, (price,), (1,)), False)
            self.assertIs(meets(town, 1, (price,), (-1,)), False)
        for number in range(16):
            self.assertIs(meets(town, 2, (number,), (0,)), 6 <= number <= 10)

    def test_what_is_left_costs_nothing(self):
        town = ((1,), ((0, 0), (0, 0)))
        self.assertIs(meets(town, 1, (0,), (-1,)), True)
        self.assertIs(meets(town, 1, (1,), (-1,)), False)
        self.assertIs(meets(town, 10 ** 20, (1,), (-1,)), False)
        for hand in (0, 1):
            self.assertIs(meets(town, 1, (0,), (hand,)), True)
            self.assertIs(meets(town, 1, (1,), (hand,)), False)

    def test_written_out(self):
        self.assertIs(meets(TOWN, 1, (0, 2), (0, 1)), True)
        self.assertIs(meets(TOWN, 1, (0, 2), (-1, 0)), True)
        self.assertIs(meets(TOWN, 1, (0, 2), (1, 0)), True)
        self.assertIs(meets(TOWN, 1, (0, 3), (0, 1)), False)
        self.assertIs(meets(TOWN, 1, (0, 1), (0, 1)), False)
        self.assertIs(meets(TOWN, 1, (1, 2), (0, 1)), False)
        self.assertIs(meets(TOWN, 1, (1, 2), (1, 0)), False)
        self.assertIs(meets(TOWN, 3, (0, 6), (0, 1)), True)
        self.assertIs(meets(TOWN, 3, (0, 7), (0, 1)), False)

    def test_no_prices_in_a_ring(self):
        for by in (1, 2, 3):
            for numbers in product(range(by + 1), repeat=3):
                for dealing in all_dealings(RING):
                    self.assertIs(meets(RING, by, numbers, dealing), False)

    def test_against_the_words(self):
        source = chance(151)
        seen = []
        for town in small_towns(152):
            many = len(town[0])
            told = meeting(town)
            prices = [(by, some_numbers(source, many, 3 * by)) for by in (1, 2, 3)] + [(1, (0,) * many)]
            if told[0] == "prices":
                prices += [told[1:3], (5 * told[1], tuple(5 * number for number in told[2]))]
            for by, numbers in prices:
                for dealing in all_dealings(town):
                    fits = meets(town, by, numbers, dealing)
                    self.assertIs(fits, plain_meets(town, by, numbers, dealing))
                    seen.append(fits)
        self.assertGreater(seen.count(True), 50)
        self.assertGreater(seen.count(False), 50)

    def test_five_things_and_hands(self):
        for town in towns_of_all_kinds(153):
            told = meeting(town)
            if told[0] == "prices":
                by, numbers, dealing = told[1:]
                self.assertIs(meets(town, by, numbers, dealing), True)
                self.assertTrue(plain_meets(town, by, numbers, dealing))
                other = tuple(-1 if hand == 0 else 0 for hand in dealing)
                self.assertIs(meets(town, by, numbers, other), plain_meets(town, by, numbers, other))

    def test_however_great(self):
        far = 10 ** 50
        self.assertIs(meets(TOWN, far, (0, 2 * far), (0, 1)), True)
        self.assertIs(meets(TOWN, far, (0, 2 * far + 1), (0, 1)), False)
        self.assertIs(meets(TOWN, far, (0, 2 * far - 1), (0, 1)), False)
        self.assertIs(meets(TOWN, 1, (0, far), (0, 1)), False)
        self.assertIs(meets(((0,), ((0, 5),)), far, (5 * far,), (0,)), True)
        self.assertIs(meets(((0,), ((0, 5),)), far, (5 * far + 1,), (0,)), False)

    def test_by_name_again_and_unchanged(self):
        numbers, dealing = (0, 2), (0, 1)
        self.assertIs(meets(town=TOWN, by=1, numbers=numbers, dealing=dealing), True)
        self.assertIs(meets(dealing=dealing, numbers=numbers, by=1, town=TOWN), True)
        self.assertEqual((numbers, dealing), ((0, 2), (0, 1)))


class ShowsMeeting(unittest.TestCase):

    def plain_shows(self, town, thing):
        many, hands = len(town[0]), len(town[1])
        if type(thing) is not tuple or len(thing) != 3:
            return False
        by, numbers, dealing = thing
        if type(by) is not int or by < 1 or not are_wholes_at_least(numbers, 0) or len(numbers) != many:
            return False
        if not are_wholes(dealing) or len(dealing) != many or not set(dealing) <= set(range(-1, hands)):
            return False
        return plain_meets(town, by, numbers, dealing)

    def test_written_out(self):
        self.assertIs(shows_meeting(TOWN, (1, (0, 2), (0, 1))), True)
        self.assertIs(shows_meeting(TOWN, (2, (0, 4), (-1, 0))), True)
        self.assertIs(shows_meeting(TOWN, (2, (0, 5), (0, 1))), False)
        self.assertIs(shows_meeting(TOWN, (1, (0, 2), (1, 1))), False)
        self.assertIs(shows_meeting(((0,), ((0, 0),)), (1, (0,), (-1,))), True)

    def test_kinds_of_numbers(self):
        for by in (0, -1, True, False, None, "1", (1,), [1]):
            self.assertIs(shows_meeting(TOWN, (by, (0, 2), (0, 1))), False)
        for numbers in ((), (0,), (0, 2, 0), [0, 2], (False, 2), (0, 2, None), (None, 2), 0, "02", (0, (2,))):
            self.assertIs(shows_meeting(TOWN, (1, numbers, (0, 1))), False)
        for dealing in ((), (0,), (0, 1, -1), [0, 1], (False, 1), (0, True), (0, 2), (-2, 0), (None, 0), "01"):
            self.assertIs(shows_meeting(TOWN, (1, (0, 2), dealing)), False)

    def test_numbers_below_nought(self):
        # At less than nothing the only hand would take the thing, too; but such are no prices in parts.
        self.assertIs(shows_meeting(((0,), ((0, 5),)), (1, (0,), (0,))), True)
        self.assertIs(shows_meeting(((0,), ((0, 5),)), (1, (-1,), (0,))), False)
        self.assertIs(shows_meeting(((0,), ((0, 0),)), (1, (-10 ** 30,), (0,))), False)

    def test_what_meeting_tells_and_the_same_with_another_number(self):
        source = chance(161)
        for town in towns_of_all_kinds(162):
            told = meeting(town)[1:]
            if len(told) == 3:
                self.assertIs(shows_meeting(town, told), True)
                by, numbers, dealing = told
                at = source.randrange(len(numbers))
                nearly = [(by + 1, numbers, dealing), (by - 1, numbers, dealing)]
                for step in (-1, 1):
                    nearly.append((by, numbers[:at] + (numbers[at] + step,) + numbers[at + 1:], dealing))
                for hand in range(-2, len(town[1]) + 1):
                    nearly.append((by, numbers, dealing[:at] + (hand,) + dealing[at + 1:]))
                for thing in nearly:
                    self.assertIs(shows_meeting(town, thing), self.plain_shows(town, thing))

    def test_another_length(self):
        told = (1, (0, 2), (0, 1))
        for thing in ((), told[:1], told[:2], told + (0,), ("prices",) + told, told[::-1], list(told), (told,)):
            self.assertIs(shows_meeting(TOWN, thing), False)

    def test_anything_is_answered(self):
        for strange in strange_things():
            self.assertIs(shows_meeting(TOWN, strange), False)
            self.assertIs(shows_meeting(RING, strange), False)
        for town in (TOWN, ((0,), ((0, 5),)), ((1,), ((0, 0),) * 5), ((0, 1, 0, 1, 1), ((0,) * 32,))):
            told = meeting(town)[1:]
            for worse in spoiled(told):
                self.assertIs(shows_meeting(town, worse), self.plain_shows(town, worse), worse)

    def test_deep_nests(self):
        deep = nested(28, 0, lambda thing: (thing, thing))
        for thing in ((deep, (0, 2), (0, 1)), (1, deep, (0, 1)), (1, (0, deep), (0, 1)), (1, (0, 2), (0, deep))):
            self.assertIs(shows_meeting(TOWN, thing), False)

    def test_however_great(self):
        far = 10 ** 50
        self.assertIs(shows_meeting(TOWN, (far, (0, 2 * far), (0, 1))), True)
        self.assertIs(shows_meeting(TOWN, (far, (1, 2 * far), (0, 1))), False)
        self.assertIs(shows_meeting(TOWN, (1, (far, far), (-1, -1))), False)
        self.assertIs(shows_meeting(TOWN, (1, (0, 2), (far, 0))), False)

    def test_by_name_again_and_unchanged(self):
        kept = [1, [0, 2], [0, 1]]
        self.assertIs(shows_meeting(town=TOWN, thing=(1, (0, 2), (0, 1))), True)
        self.assertIs(shows_meeting(thing=kept, town=TOWN), False)
        self.assertEqual(kept, [1, [0, 2], [0, 1]])


class Surplus(unittest.TestCase):

    def test_written_out(self):
        self.assertEqual(surplus(TOWN, 1, (0, 2)), 6)
        self.assertEqual(surplus(TOWN, 1, (0, 0)), 8)
        self.assertEqual(surplus(TOWN, 1, (10, 10)), 20)
        self.assertEqual(surplus(TOWN, 2, (0, 4)), 12)
        self.assertEqual(surplus(TOWN, 2, (0, 5)), 13)
        self.assertEqual(surplus(((0,), ((0, 7), (0, 9))), 3, (0,)), 48)

    def test_against_the_words(self):
        source = chance(171)
        for town in towns_of_all_kinds(172):
            for by, most in ((1, 0), (1, 1000), (3, 900), (7, 10 ** 30)):
                numbers = some_numbers(source, len(town[0]), most)
                told = surplus(town, by, numbers)
                self.assertIs(type(told), int)
                self.assertEqual(told, plain_surplus(town, by, numbers))
                # At no prices less than the greatest sum.
                self.assertGreaterEqual(told, by * greatest(town))

    def test_by_name(self):
        self.assertEqual(surplus(numbers=(0, 2), by=1, town=TOWN), 6)


class AreMeeting(unittest.TestCase):

    def test_written_out(self):
        town = ((0,), ((0, 5), (0, 3)))
        for number in range(16):
            self.assertIs(are_meeting(town, 1, (number,)), 3 <= number <= 5)
            self.assertIs(are_meeting(town, 2, (number,)), 6 <= number <= 10)
        self.assertIs(are_meeting(TOWN, 1, (0, 2)), True)
        self.assertIs(are_meeting(TOWN, 1, (0, 3)), False)
        self.assertIs(are_meeting(TOWN, 1, (1, 2)), False)

    def test_against_all_dealings(self):
        seen = []
        for town in small_towns(181):
            for by in (1, 2):
                for numbers in product(range(0, 2 * by + 2), repeat=len(town[0])):
                    told = are_meeting(town, by, numbers)
                    self.assertIs(told, any(plain_meets(town, by, numbers, dealing) for dealing in all_dealings(town)))
                    seen.append(told)
        self.assertGreater(seen.count(True), 50)
        self.assertGreater(seen.count(False), 50)

    def test_with_each_best_dealing_and_with_no_other(self):
        for town in small_towns(182):
            best = plain_greatest(town)
            for numbers in product(range(0, 4), repeat=len(town[0])):
                if are_meeting(town, 1, numbers):
                    self.assertEqual(surplus(town, 1, numbers), best)
                    for dealing in all_dealings(town):
                        self.assertIs(meets(town, 1, numbers, dealing), plain_sum(town, dealing) == best)
                else:
                    self.assertGreater(surplus(town, 1, numbers), best)

    def test_in_towns_of_all_kinds(self):
        source = chance(183)
        for town in towns_of_all_kinds(184):
            told = meeting(town)
            many = len(town[0])
            prices = [(1, (0,) * many), (2, some_numbers(source, many, 2000))]
            if told[0] == "prices":
                self.assertIs(are_meeting(town, *told[1:3]), True)
                prices.append((told[1], (told[2][0] + 1,) + told[2][1:]))
            for by, numbers in prices:
                # Those that meet do so with each dealing of the greatest sum, so with the best one.
                self.assertIs(are_meeting(town, by, numbers), plain_meets(town, by, numbers, best_dealing(town)))

    def test_the_middle_of_two_that_meet(self):
        seen = 0
        for town in small_towns(185):
            prices = [
                (by, numbers) for by in (1, 2, 3) for numbers in product(range(3 * by + 1), repeat=len(town[0]))
                if sum(numbers) <= 4 * by and are_meeting(town, by, numbers)
            ]
            pairs = list(product(prices, prices))
            for (by, numbers), (other_by, others) in pairs[::len(pairs) // 200 + 1]:
                middle = tuple(one * other_by + other * by for one, other in zip(numbers, others))
                self.assertIs(are_meeting(town, 2 * by * other_by, middle), True)
                self.assertIs(meets(town, 2 * by * other_by, middle, best_dealing(town)), True)
                seen += 1
        self.assertGreater(seen, 500)

    def test_however_great(self):
        far = 10 ** 50
        self.assertIs(are_meeting(TOWN, far, (0, 2 * far)), True)
        self.assertIs(are_meeting(TOWN, far, (0, 2 * far + 1)), False)
        self.assertIs(are_meeting(TOWN, 1, (far, far)), False)

    def test_by_name_again_and_unchanged(self):
        numbers = (0, 2)
        self.assertIs(are_meeting(town=TOWN, by=1, numbers=numbers), True)
        self.assertIs(are_meeting(numbers=numbers, by=1, town=TOWN), True)
        self.assertEqual(numbers, (0, 2))


if __name__ == "__main__":
    unittest.main()
