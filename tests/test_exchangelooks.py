"""Point 11: the looker for exchanges."""

import unittest
from itertools import product

from tests.samples import (
    all_wants, assigning, chance, covering, nested, number_of, set_of, some_want, spoiled, strange_things, with_sides,
)
from wantprices.exchangelooks import shows_exchanges
from wantprices.exchanging import exchanges
from wantprices.kinds import breaking
from wantprices.made import alone, joined, paired, some_of


def plain_choices(want, sides):
    """For all (X, Y, i), as they rise, the list of all exchanges."""
    ones = frozenset(thing for thing, side in enumerate(sides) if side == 1)

    def w(heap):
        return want[number_of(heap ^ ones)]

    choices = {}
    for one, other, i in product(range(len(want)), range(len(want)), range(len(sides))):
        x, y = set_of(one), set_of(other)
        if i in x - y:
            both = w(x) + w(y)
            choices[one, other, i] = [None] if both <= w(x - {i}) + w(y | {i}) else []
            choices[one, other, i] += [
                j for j in sorted(y - x) if both <= w(x - {i} | {j}) + w(y - {j} | {i})
            ]
    return choices


def plain_shows(want, sides, thing):
    choices = plain_choices(want, sides)
    if type(thing) is not tuple or len(thing) != len(choices):
        return False
    for place, row in zip(choices, thing):
        if type(row) is not tuple or [type(part) for part in row[:3]] != [int] * 3 or len(row) != 4:
            return False
        if type(row[3]) not in (int, type(None)) or row[:3] != place or row[3] not in choices[place]:
            return False
    return True


def wants_of_sides(source, many, sides):
    return [with_sides(assigning(source, many, most), sides) for most in (1, 3, 1000)]


class ShowsExchanges(unittest.TestCase):

    def test_written_out(self):
        self.assertIs(shows_exchanges((0, 5), (0,), ((1, 0, 0, None),)), True)
        self.assertIs(shows_exchanges((0, 5), (1,), ((1, 0, 0, None),)), True)
        for exchange in (0, 1, -1, True, False, "", (), 10 ** 30):
            self.assertIs(shows_exchanges((0, 5), (0,), ((1, 0, 0, exchange),)), False)
        self.assertIs(shows_exchanges((0, 1, 1, 1), (0, 0), (
            (1, 0, 0, None), (1, 2, 0, 1), (2, 0, 1, None), (2, 1, 1, 0),
            (3, 0, 0, None), (3, 0, 1, None), (3, 1, 1, None), (3, 2, 0, None),
        )), True)
        # Behind a want of both alone either exchange of one thing for the other is one, too.
        self.assertIs(shows_exchanges((0, 1, 1, 2), (0, 0), (
            (1, 0, 0, None), (1, 2, 0, 1), (2, 0, 1, None), (2, 1, 1, None),
            (3, 0, 0, None), (3, 0, 1, None), (3, 1, 1, None), (3, 2, 0, None),
        )), True)

    def test_what_exchanges_tells(self):
        source = chance(61)
        for many in range(1, 6):
            for sides in product((0, 1), repeat=many):
                for want in wants_of_sides(source, many, sides):
                    self.assertIs(shows_exchanges(want, sides, exchanges(want, sides)), True)

    def test_any_exchange(self):
        source = chance(62)
        for many in range(1, 6):
            for sides in ((0,) * many, (1,) * many, tuple(thing % 2 for thing in range(many))):
                for want in wants_of_sides(source, many, sides) + [alone((2,) * many)]:
                    choices = plain_choices(want, sides)
                    for choose in (lambda row: row[0], lambda row: row[-1], source.choice):
                        rows = tuple(place + (choose(row),) for place, row in choices.items())
                        self.assertIs(shows_exchanges(want, sides, rows), True)

    def test_one_that_is_none(self):
        source = chance(63)
        for many in range(1, 6):
            sides = tuple(source.randint(0, 1) for _ in range(many))
            want = wants_of_sides(source, many, sides)[1]
            told = exchanges(want, sides)
            choices = plain_choices(want, sides)
            for at in source.sample(range(len(told)), min(24, len(told))):
                place = told[at][:3]
                for choice in [None, -1, many, 10 ** 30, True, False] + list(range(many)):
                    rows = told[:at] + (place + (choice,),) + told[at + 1:]
                    fits = type(choice) is not bool and choice in choices[place]
                    self.assertIs(shows_exchanges(want, sides, rows), fits)

    def test_rows_that_lack_or_stand_elsewhere(self):
        for want, sides in (((0, 2), (0,)), (some_of((3, 1), 1), (0, 0)), (paired((0, 1, 0), ((0, 1, 4),)), (0, 1, 0))):
            told = exchanges(want, sides)
            self.assertIs(shows_exchanges(want, sides, told), True)
            self.assertIs(shows_exchanges(want, sides, told + told[-1:]), False)
            self.assertIs(shows_exchanges(want, sides, told + (None,)), False)
            self.assertIs(shows_exchanges(want, sides, ()), False)
            self.assertIs(shows_exchanges(want, sides, list(told)), False)
            self.assertIs(shows_exchanges(want, sides, tuple(list(row) for row in told)), False)
            self.assertIs(shows_exchanges(want, sides, (told,)), False)
            self.assertIs(shows_exchanges(want, sides, tuple(row[:3] for row in told)), False)
            self.assertIs(shows_exchanges(want, sides, tuple(row + (None,) for row in told)), False)
            for at in range(len(told)):
                self.assertIs(shows_exchanges(want, sides, told[:at] + told[at + 1:]), False)
                self.assertIs(shows_exchanges(want, sides, told[:at] + told[at:at + 1] + told[at:]), False)
            for at in range(len(told) - 1):
                swapped = told[:at] + (told[at + 1], told[at]) + told[at + 2:]
                self.assertIs(shows_exchanges(want, sides, swapped), False)
                doubled = told[:at] + (told[at], told[at]) + told[at + 2:]
                self.assertIs(shows_exchanges(want, sides, doubled), False)

    def test_another_number_in_a_row(self):
        source = chance(64)
        for many in range(1, 6):
            sides = tuple(source.randint(0, 1) for _ in range(many))
            want = wants_of_sides(source, many, sides)[2]
            told = exchanges(want, sides)
            for at in source.sample(range(len(told)), min(8, len(told))):
                for part in range(3):
                    for number in (told[at][part] + 1, told[at][part] - 1, -1, 2 ** many, 10 ** 30):
                        row = told[at][:part] + (number,) + told[at][part + 1:]
                        self.assertIs(shows_exchanges(want, sides, told[:at] + (row,) + told[at + 1:]), False)

    def test_wants_that_are_not_of_their_sides_have_none(self):
        source = chance(65)
        for many in range(2, 6):
            sides = (0,) * many
            for want in [some_want(source, many, 4) for _ in range(4)] + [with_sides(covering(source, many), sides)]:
                choices = plain_choices(want, sides)
                self.assertEqual(breaking(want, sides) is None, all(choices.values()))
                for instead in [None] + list(range(many)):
                    rows = tuple(place + ((row + [instead])[0],) for place, row in choices.items())
                    self.assertIs(shows_exchanges(want, sides, rows), all(choices.values()))
                self.assertIs(shows_exchanges(want, sides, exchanges(want, sides)), all(choices.values()))

    def test_all_small_wants(self):
        rows_of_two = exchanges(alone((1, 1)), (0, 0))
        for want in all_wants(2, 3):
            for sides in product((0, 1), repeat=2):
                self.assertIs(shows_exchanges(want, sides, exchanges(want, sides)), breaking(want, sides) is None)
                self.assertIs(shows_exchanges(want, sides, rows_of_two), plain_shows(want, sides, rows_of_two))

    def test_what_is_made_has_exchanges(self):
        source = chance(66)
        for many in range(1, 6):
            worths = [tuple(source.randint(0, 9) for _ in range(many)) for _ in range(2)]
            for sides in product((0, 1), repeat=many):
                self.assertIs(shows_exchanges(alone(worths[0]), sides, exchanges(alone(worths[0]), sides)), True)
            want = joined(some_of(worths[0], 1), some_of(worths[1], 2))
            self.assertIs(shows_exchanges(want, (0,) * many, exchanges(want, (0,) * many)), True)

    def test_anything_is_answered(self):
        for want, sides in (((0, 2), (0,)), ((0, 1, 1, 1), (0, 0)), ((0, 1, 1, 2), (1, 0)), ((0, 0, 0, 1), (0, 0))):
            told = exchanges(want, sides) or exchanges(alone((1, 1)), sides)
            for strange in strange_things():
                self.assertIs(shows_exchanges(want, sides, strange), False)
            for worse in spoiled(told):
                self.assertIs(shows_exchanges(want, sides, worse), plain_shows(want, sides, worse), worse)

    def test_anything_in_one_place_of_many(self):
        source = chance(67)
        for many in (3, 4):
            sides = (0, 1, 0, 1)[:many]
            want = wants_of_sides(source, many, sides)[1]
            told = exchanges(want, sides)
            for strange in strange_things():
                at, part = source.randrange(len(told)), source.randrange(4)
                row = told[at][:part] + (strange,) + told[at][part + 1:]
                for worse in (row, strange):
                    thing = told[:at] + (worse,) + told[at + 1:]
                    self.assertIs(shows_exchanges(want, sides, thing), plain_shows(want, sides, thing))

    def test_deep_nests(self):
        deep = nested(28, 0, lambda thing: (thing,))
        self.assertIs(shows_exchanges((0, 5), (0,), ((1, 0, 0, deep),)), False)
        self.assertIs(shows_exchanges((0, 5), (0,), ((1, 0, deep, None),)), False)

    def test_by_name_again_and_unchanged(self):
        want, sides, thing = (0, 5), (0,), ((1, 0, 0, None),)
        self.assertIs(shows_exchanges(want=want, sides=sides, thing=thing), True)
        self.assertIs(shows_exchanges(thing=thing, sides=sides, want=want), True)
        kept = [[1, 0, 0, None]]
        self.assertIs(shows_exchanges(want, sides, kept), False)
        self.assertEqual(kept, [[1, 0, 0, None]])


if __name__ == "__main__":
    unittest.main()
