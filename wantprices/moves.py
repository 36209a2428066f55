"""Moves of prices: a step makes the prices of side 0 one more, those of side 1 one less."""

from wantprices.heaps import has, heap_of


def stepped(sides, prices, heap):
    """The prices behind a step by the heap."""
    return tuple([
        price + step_of(side) if has(heap, thing) else price
        for thing, (side, price) in enumerate(zip(sides, prices))
    ])


def step_of(side):
    """What a step makes of the price of a thing of that side."""
    return -1 if side == 1 else 1


def heaps_that_may(sides, prices):
    """The rising list of all heaps behind whose step no price is below 0."""
    stuck = heap_of([
        thing for thing, (side, price) in enumerate(zip(sides, prices)) if side == 1 and price == 0
    ])
    return [heap for heap in range(1 << len(sides)) if heap & stuck == 0]


def other_way(town):
    """The town with each thing on the other side: its steps from below are those of the town from above."""
    sides, wants = town
    return (other_sides(sides), wants)


def other_sides(sides):
    """For each thing the other side."""
    return tuple([1 - side for side in sides])
