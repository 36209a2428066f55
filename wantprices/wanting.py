"""What a want takes at prices: gains and best heaps."""

from wantprices.heaps import things_in


def gain(want, prices, heap):
    """The worth of the heap less the prices of its things."""
    return want[heap] - sum([prices[thing] for thing in things_in(heap)])


def gains(want, prices):
    """The gains of all heaps, each at its number."""
    return [gain(want, prices, heap) for heap in range(len(want))]


def greatest_gain(want, prices):
    """The greatest gain of all heaps."""
    return max(gains(want, prices))


def best_heaps(want, prices):
    """The rising tuple of all heaps of the greatest gain."""
    most = greatest_gain(want, prices)
    return tuple([heap for heap, here in enumerate(gains(want, prices)) if here == most])
