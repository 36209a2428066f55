"""Kinds of wants: whether a want is of its sides, and else what breaks it."""

from wantprices.errors import NotOfKind
from wantprices.heaps import has, heap_of_side, put_in


def turned(want, sides):
    """The numbers of which the one at a heap is the worth of it with all things of side 1 exchanged."""
    flips = heap_of_side(sides, 1)
    return tuple([want[heap ^ flips] for heap in range(len(want))])


def breaking(want, sides):
    """The first pair that breaks the want, else the first three that do, else None."""
    worths = turned(want, sides)
    pair = first_pair(worths, len(sides))
    if pair is not None:
        return pair
    return first_three(worths, len(sides))


def first_pair(worths, many):
    """The first ("pair", S, i, j) that breaks, None where there is none."""
    for heap in range(len(worths)):
        for i, j in pairs_beside(heap, many):
            if pair_breaks(worths, heap, i, j):
                return ("pair", heap, i, j)
    return None


def first_three(worths, many):
    """The first ("three", S, i, j, k) that breaks, None where there is none."""
    for heap in range(len(worths)):
        for i, j in pairs_beside(heap, many):
            for k in things_beside(heap, many):
                if k != i and k != j and three_break(worths, heap, i, j, k):
                    return ("three", heap, i, j, k)
    return None


def things_beside(heap, many):
    """The rising list of the things that are not in the heap."""
    return [thing for thing in range(many) if not has(heap, thing)]


def pairs_beside(heap, many):
    """The rising list of the pairs (i, j), i below j, of things that are not in the heap."""
    beside = things_beside(heap, many)
    return [(i, j) for i in beside for j in beside if i < j]


def pair_breaks(worths, heap, i, j):
    """Whether both things together bring more than each by itself."""
    with_i = put_in(heap, i)
    with_j = put_in(heap, j)
    return worths[put_in(with_i, j)] + worths[heap] > worths[with_i] + worths[with_j]


def three_break(worths, heap, i, j, k):
    """Whether i and j in one heap and k in the other bring more than either other parting of the three."""
    return parted(worths, heap, i, j, k) > max(parted(worths, heap, i, k, j), parted(worths, heap, j, k, i))


def parted(worths, heap, one, other, third):
    """The worths of the heap with the first two things more, and of the heap with the third."""
    return worths[put_in(put_in(heap, one), other)] + worths[put_in(heap, third)]


def first_strange(town):
    """The first hand whose want is not of the town's sides, None where there is none."""
    sides, wants = town
    for hand, want in enumerate(wants):
        if breaking(want, sides) is not None:
            return hand
    return None


def refuse_strange(town):
    """Refuse a town that is not of its sides."""
    hand = first_strange(town)
    if hand is not None:
        raise NotOfKind(hand)
