"""Taking things one by one, as long as the gain grows."""

from wantprices.heaps import exchanged, heap_of_side
from wantprices.wanting import gain


def one_by_one(want, sides, prices):
    """(heap, row): the heap that comes in the end, and the things exchanged, in order."""
    heap = heap_of_side(sides, 1)
    row = []
    thing = best_exchange(want, prices, heap, row)
    while thing is not None:
        heap = exchanged(heap, thing)
        row.append(thing)
        thing = best_exchange(want, prices, heap, row)
    return (heap, tuple(row))


def best_exchange(want, prices, heap, row):
    """The least thing not in the row whose exchange makes the gain greatest; None where none makes it greater."""
    best = None
    most = gain(want, prices, heap)
    for thing in range(len(prices)):
        here = gain(want, prices, exchanged(heap, thing))
        if here > most and thing not in row:
            best = thing
            most = here
    return best
