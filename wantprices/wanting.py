"""What a want takes at prices: gains and best heaps."""

from wantprices.heaps import things_in


def cost(prices, heap):
    """The prices of the heap's things together."""
    return sum([prices[thing] for thing in things_in(heap)])


def gain(want, prices, heap):
    """The worth of the heap less the prices of its things."""
    return want[heap] - cost(prices, heap)


def costs(prices):
    """What all heaps cost, each at its number."""
    # Asked for most of all: the heaps with one thing more come behind those without it, in the same order.
    told = [0]
    for price in prices:
        told = told + [here + price for here in told]
    return told


def gains(want, prices):
    """The gains of all heaps, each at its number."""
    return [worth - paid for worth, paid in zip(want, costs(prices))]


def greatest_gain(want, prices):
    """The greatest gain of all heaps."""
    return max(gains(want, prices))


def best_heaps(want, prices):
    """The rising tuple of all heaps of the greatest gain."""
    told = gains(want, prices)
    most = max(told)
    return tuple([heap for heap, here in enumerate(told) if here == most])
