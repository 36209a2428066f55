"""Who pays what: each hand what the others lose by it."""

from wantprices.dealings import heaps_of
from wantprices.sums import best_dealing, greatest, greatest_without
from wantprices.towns import with_want
from wantprices.wanting import cost


def lost_without(town, hand):
    """What the greatest sum loses where that hand has nothing."""
    return greatest(town) - greatest_without(town, hand)


def pays(town, dealing):
    """For each hand, by a dealing of the greatest sum, the worth of its heap less what is lost without it."""
    heaps = heaps_of(town, dealing)
    return tuple([want[heap] - lost_without(town, hand) for hand, (want, heap) in enumerate(zip(town[1], heaps))])


def spared(town, by, numbers, dealing):
    """For each hand what its heap costs in parts, at prices that meet with the dealing, less by times what it pays."""
    return tuple([
        cost(numbers, heap) - by * paid
        for heap, paid in zip(heaps_of(town, dealing), pays(town, dealing))
    ])


def told_otherwise(town, hand, want):
    """What the hand gains when it tells this want instead of its own."""
    told = with_want(town, hand, want)
    dealing = best_dealing(told)
    return town[1][hand][heaps_of(told, dealing)[hand]] - pays(told, dealing)[hand]
