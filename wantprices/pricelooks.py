"""The looker for price breaks."""

from wantprices.heaps import heap_of, heap_of_side, is_within, less, taken_out
from wantprices.moves import stepped
from wantprices.wanting import best_heaps
from wantprices.wholes import are_wholes, is_whole


def shows_price_break(want, sides, thing):
    """Whether anything is a price break (prices, thing, heap) of the want."""
    if not isinstance(thing, tuple) or len(thing) != 3:
        return False
    prices, at, heap = thing
    if not are_wholes(prices, len(sides)) or not is_whole(at) or not is_whole(heap):
        return False
    if not 0 <= at < len(sides) or heap not in best_heaps(want, prices):
        return False
    behind = best_heaps(want, stepped(sides, prices, heap_of((at,))))
    return not any([keeps(sides, heap, other, at) for other in behind])


def keeps(sides, heap, other, thing):
    """Whether the other heap has what the heap has of side 0, and lacks what it lacks of side 1, but for the thing."""
    ones = heap_of_side(sides, 1)
    stay = taken_out(less(heap, ones), thing)
    stay_away = taken_out(less(ones, heap), thing)
    return is_within(stay, other) and other & stay_away == 0
