"""Price breaks: prices at which one step of one price lets go what would have to stay."""

from wantprices.heaps import has, heap_of, heap_of_side, put_in
from wantprices.kinds import breaking, turned


def price_break(want, sides):
    """A price break (prices, thing, heap) of the want, None where it is of its sides."""
    broken = breaking(want, sides)
    if broken is None:
        return None
    worths = turned(want, sides)
    heap, i, j = broken[1:4]
    if broken[0] == "pair":
        near = pair_prices(worths, heap, i, j)
    else:
        near = three_prices(worths, heap, i, j, broken[4])
    prices = far_prices(worths, heap, len(sides))
    for thing, price in zip(broken[2:], near):
        prices[thing] = price
    return (with_signs(prices, sides), i, put_in(put_in(heap, i), j) ^ heap_of_side(sides, 1))


def far_prices(worths, heap, many):
    """Prices at which each best heap has all things of that heap, and none beside."""
    # More than any two heaps differ by, so no worth makes up for it.
    far = max(worths) + 1
    return [-far if has(heap, thing) else far for thing in range(many)]


def pair_prices(worths, heap, i, j):
    """Prices at which i, j with the heap gain what it gains alone; behind a step of i's price no heap with j does."""
    of_j = worths[put_in(heap, j)] - worths[heap] + 1
    return (worths[put_in(put_in(heap, i), j)] - worths[heap] - of_j, of_j)


def three_prices(worths, heap, i, j, k):
    """Prices at which i, j with the heap gain what k with it gains; behind a step of i's price no heap with j does."""
    def worth(things):
        return worths[heap | heap_of(things)]

    # The least gain that neither i alone with the heap need rise above nor j alone with it reach.
    most = worth((i,)) + worth((j,)) - worth((i, j)) + 1
    of_j = max(worth((j,)) - most, worth((j, k)) - worth((k,))) + 1
    return (worth((i, j)) - most - of_j, of_j, worth((k,)) - most)


def with_signs(prices, sides):
    """The prices of a turned want as those of the want itself: what is had there is given away here."""
    return tuple([-price if side == 1 else price for price, side in zip(prices, sides)])
