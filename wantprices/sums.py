"""The greatest sums of dealings."""

from wantprices.dealings import LEFT
from wantprices.heaps import has, is_within, less, put_in
from wantprices.made import joined
from wantprices.towns import with_want, without_hand


def greatest(town):
    """The greatest sum of all dealings."""
    return greatest_sums(town[1], len(town[0]))[-1]


def greatest_of(town, heap):
    """The greatest sum where all things beside that heap are left."""
    return greatest_sums(town[1], len(town[0]))[heap]


def greatest_without(town, hand):
    """The greatest sum where that hand has nothing."""
    return greatest(without_hand(town, hand))


def greatest_with_two(town, thing):
    """The greatest sum where of that thing there are two."""
    return max([
        greatest(with_want(town, hand, with_one_more(want, thing))) for hand, want in enumerate(town[1])
    ])


def greatest_sums(wants, many):
    """For each heap of so many things the greatest sum of all dealings of it."""
    # What is left is worth nothing: so it goes to a hand that wants nothing.
    sums = (0,) * (1 << many)
    for want in wants:
        sums = joined(sums, want)
    return sums


def with_one_more(want, thing):
    """The worths by which each heap has one of the thing already."""
    return tuple([want[put_in(heap, thing)] for heap in range(len(want))])


def best_dealing(town):
    """The first dealing, as tuples rise, of the greatest sum."""
    sides, wants = town
    rows = [(0, (LEFT,) * len(sides))] * (1 << len(sides))
    for hand, want in enumerate(wants):
        rows = [best_row(rows, want, hand, heap) for heap in range(len(want))]
    return rows[-1][1]


def best_row(rows, want, hand, heap):
    """(minus the greatest sum, the first dealing of it) of a heap, the rows being such of all hands ahead."""
    # Of two dealings that give this hand the same part the first is the one whose rest is first:
    # so the first rests alone have to be kept. Sums are kept below 0 for the greatest one to rise first.
    return min([
        (rows[less(heap, part)][0] - want[part], dealt(rows[less(heap, part)][1], hand, part))
        for part in range(heap + 1) if is_within(part, heap)
    ])


def dealt(dealing, hand, heap):
    """The dealing, with all things of the heap given to the hand."""
    return tuple([hand if has(heap, thing) else before for thing, before in enumerate(dealing)])
