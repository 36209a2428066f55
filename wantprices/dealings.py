"""Dealings: for each thing the hand that has it, or -1 where it is left."""

from wantprices.heaps import heap_of_side
from wantprices.wholes import are_wholes_from

LEFT = -1


def is_dealing(town, thing):
    """Whether anything is a dealing of the town."""
    sides, wants = town
    return are_wholes_from(thing, len(sides), LEFT) and max(thing) < len(wants)


def heaps_of(town, dealing):
    """For each hand its heap."""
    return tuple([heap_of_side(dealing, hand) for hand in range(len(town[1]))])


def left_of(town, dealing):
    """The heap that is left."""
    return heap_of_side(dealing, LEFT)


def sum_of(town, dealing):
    """The worths of all hands' heaps together."""
    return sum([want[heap] for want, heap in zip(town[1], heaps_of(town, dealing))])
