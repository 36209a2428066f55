"""Steps of prices, from below and from above, each to the least surplus there is behind one step."""

from wantprices.kinds import refuse_strange
from wantprices.meetings import surplus
from wantprices.moves import heaps_that_may, other_way, stepped
from wantprices.wanting import best_heaps


def rising(town):
    """(row, prices): the heaps that are taken from below, in order, and the prices at the end."""
    refuse_strange(town)
    return steps_of(town)


def falling(town):
    """(row, prices): the heaps that are taken from above, in order, and the prices at the end."""
    refuse_strange(town)
    return steps_of(other_way(town))


def steps_of(town):
    """(row, prices) of the steps from below, from the first prices on."""
    return steps_on(town, first_prices(town))


def first_prices(town):
    """The prices at which the steps from below begin."""
    top = max([want[-1] for want in town[1]])
    return tuple([top if side == 1 else 0 for side in town[0]])


def steps_on(town, prices):
    """(row, prices) of the steps from below, from these prices on."""
    row = []
    ground = ground_of(town, prices)
    heap = next_step(town, prices)
    while heap != 0:
        row.append(heap)
        prices = stepped(town[0], prices, heap)
        before = ground
        ground = ground_of(town, prices)
        # To look for a step takes long, and on the same ground it is the same one.
        if ground != before:
            heap = next_step(town, prices)
    return (tuple(row), prices)


def ground_of(town, prices):
    """What tells a step by itself in a town of its sides: which heaps may, and each hand's best heaps."""
    sides, wants = town
    return (heaps_that_may(sides, prices), [best_heaps(want, prices) for want in wants])


def next_step(town, prices):
    """The heap of the step from below: of those of the least surplus the one within all others."""
    sides = town[0]
    # A heap's number is above those of all within it: so the one within all others has the least one.
    return min([
        (surplus(town, 1, stepped(sides, prices, heap)), heap) for heap in heaps_that_may(sides, prices)
    ])[1]
