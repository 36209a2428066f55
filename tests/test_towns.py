"""Point 6: sides and towns."""

import unittest
from itertools import product

from tests.samples import chance, nested, some_sides, some_want, spoiled, strange_things
from wantprices.towns import is_sides, is_town


class IsSides(unittest.TestCase):

    def test_all_sides_of_one_to_five_things(self):
        for many in range(1, 6):
            for sides in product((0, 1), repeat=many):
                self.assertIs(is_sides(sides), True)

    def test_no_things_and_six(self):
        self.assertIs(is_sides(()), False)
        self.assertIs(is_sides((0,) * 6), False)

    def test_other_numbers(self):
        for number in (-1, 2, 3, 10 ** 30, -10 ** 30):
            for many in range(1, 6):
                for at in range(many):
                    self.assertIs(is_sides((0,) * at + (number,) + (1,) * (many - at - 1)), False)

    def test_truths_are_no_sides(self):
        self.assertIs(is_sides((True,)), False)
        self.assertIs(is_sides((0, False)), False)

    def test_anything_is_answered(self):
        for strange in strange_things():
            self.assertIs(is_sides(strange), False)
        for sides in ((0,), (1, 0), (0, 1, 0, 1, 1)):
            for worse in spoiled(sides):
                self.assertIs(is_sides(worse), False, worse)

    def test_deep_nests(self):
        self.assertIs(is_sides(nested(30, 0, lambda thing: (thing,))), False)
        self.assertIs(is_sides((0, nested(30, 1, lambda thing: (thing, 0)))), False)

    def test_by_name(self):
        self.assertIs(is_sides(thing=(0, 1)), True)


class IsTown(unittest.TestCase):

    def test_towns_of_one_to_five_things_and_hands(self):
        source = chance(5)
        for many in range(1, 6):
            for hands in range(1, 6):
                sides = some_sides(source, many)
                wants = tuple(some_want(source, many) for _ in range(hands))
                self.assertIs(is_town((sides, wants)), True)

    def test_no_hands_and_six(self):
        for many in range(1, 6):
            want = (0,) * 2 ** many
            for hands in range(9):
                self.assertIs(is_town(((0,) * many, (want,) * hands)), 1 <= hands <= 5)

    def test_no_things_and_six(self):
        self.assertIs(is_town(((), ((0,),))), False)
        self.assertIs(is_town(((0,) * 6, ((0,) * 64,))), False)

    def test_wants_of_another_count_of_things(self):
        for many in range(1, 6):
            for other in range(7):
                wants = ((0,) * 2 ** many, (0,) * 2 ** other)
                self.assertIs(is_town(((1,) * many, wants)), other == many)
                self.assertIs(is_town(((1,) * many, wants[::-1])), other == many)

    def test_worths_however_great(self):
        self.assertIs(is_town(((0,), ((0, 10 ** 400),))), True)

    def test_wants_that_are_none(self):
        for worse in ((1, 1), (0, -1), (0,), (0, 1, 2), (True, 1), [0, 1]):
            self.assertIs(is_town(((0,), (worse,))), False)
            self.assertIs(is_town(((0,), ((0, 1), worse))), False)
            self.assertIs(is_town(((0,), ((0, 1), (0, 1), (0, 1), (0, 1), worse))), False)
        self.assertIs(is_town(((0, 1), ((0, 3, 2, 2),))), False)

    def test_sides_that_are_none(self):
        for sides in ((2,), (-1,), (True,), [0], "0", 0, None):
            self.assertIs(is_town((sides, ((0, 1),))), False)

    def test_a_tuple_of_another_length(self):
        town = ((0,), ((0, 1),))
        self.assertIs(is_town(town), True)
        self.assertIs(is_town(town[:1]), False)
        self.assertIs(is_town(town + ((0, 1),)), False)
        self.assertIs(is_town(town + (None,)), False)
        self.assertIs(is_town(town[::-1]), False)

    def test_anything_is_answered(self):
        for strange in strange_things():
            self.assertIs(is_town(strange), False)
        for town in (((0,), ((0, 4),)), ((1, 0), ((0, 1, 2, 3), (0, 0, 0, 0)))):
            self.assertIs(is_town(town), True)
            for worse in spoiled(town):
                self.assertIs(is_town(worse), False, worse)

    def test_deep_nests(self):
        self.assertIs(is_town(nested(30, 0, lambda thing: (thing, thing))), False)
        self.assertIs(is_town(((0,), nested(28, 0, lambda thing: (thing,)))), False)
        self.assertIs(is_town((nested(29, 0, lambda thing: (thing,)), ((0, 1),))), False)

    def test_by_name_again_and_unchanged(self):
        town = ((0,), ((0, 1),))
        self.assertIs(is_town(thing=town), True)
        self.assertIs(is_town(town), True)
        self.assertEqual(town, ((0,), ((0, 1),)))


if __name__ == "__main__":
    unittest.main()
