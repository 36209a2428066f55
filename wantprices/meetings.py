"""Prices that meet: each hand has one of its best heaps, and what is left costs nothing."""

from wantprices.dealings import heaps_of, is_dealing, left_of
from wantprices.heaps import things_in
from wantprices.sums import greatest
from wantprices.wanting import best_heaps, greatest_gain
from wantprices.wholes import are_wholes_from, is_whole_from


def in_parts(want, by):
    """The want with all worths taken by times, for gains in parts."""
    return tuple([by * worth for worth in want])


def meets(town, by, numbers, dealing):
    """Whether the prices in parts meet with the dealing."""
    heaps = heaps_of(town, dealing)
    if not all([heap in best_heaps(in_parts(want, by), numbers) for want, heap in zip(town[1], heaps)]):
        return False
    return all([numbers[thing] == 0 for thing in things_in(left_of(town, dealing))])


def shows_meeting(town, thing):
    """Whether anything is (by, numbers, dealing), prices in parts that meet with the dealing."""
    if not isinstance(thing, tuple) or len(thing) != 3:
        return False
    by, numbers, dealing = thing
    if not is_whole_from(by, 1) or not are_wholes_from(numbers, len(town[0]), 0):
        return False
    return is_dealing(town, dealing) and meets(town, by, numbers, dealing)


def surplus(town, by, numbers):
    """All hands' greatest gains in parts, and all numbers, together."""
    return sum([greatest_gain(in_parts(want, by), numbers) for want in town[1]]) + sum(numbers)


def are_meeting(town, by, numbers):
    """Whether the prices in parts meet with some dealing."""
    # By times the sum of no dealing is above the surplus, and by one it is as much just where
    # each hand's heap is a best one and nothing that is left costs anything.
    return surplus(town, by, numbers) == by * greatest(town)
