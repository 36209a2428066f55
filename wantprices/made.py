"""Wants that are made: of worths, of other wants, of rows."""

from wantprices.heaps import heap_of, is_within, less, things_in


def alone(worths):
    """The want by which a heap is worth its things' worths together."""
    return some_of(worths, len(worths))


def some_of(worths, many):
    """The want by which a heap is worth the greatest of its things' worths, so many, together."""
    return tuple([
        sum(sorted([worths[thing] for thing in things_in(heap)], reverse=True)[:many])
        for heap in range(1 << len(worths))
    ])


def joined(one, other):
    """The want by which a heap is parted between two wants so that both together are greatest."""
    return tuple([most_parted(one, other, heap) for heap in range(len(one))])


def most_parted(one, other, heap):
    """The greatest sum of a part of the heap to the one want and of the rest to the other."""
    return max([one[part] + other[less(heap, part)] for part in range(heap + 1) if is_within(part, heap)])


def paired(sides, rows):
    """The want by which a heap is worth the best rows of pairs in it, no thing in two of them."""
    want = (0,) * (1 << len(sides))
    for i, j, worth in rows:
        want = with_pair(want, heap_of((i, j)), worth)
    return want


def with_pair(want, pair, worth):
    """The want by which each heap may spend that pair once, if it has it, on that worth."""
    # What is left behind the pair is looked up in the want ahead of this row: so no row counts twice.
    return tuple([
        max(want[heap], want[less(heap, pair)] + worth) if is_within(pair, heap) else want[heap]
        for heap in range(len(want))
    ])
