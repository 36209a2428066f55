"""Steps that go on from prices on the way, or from any that do not lie beyond where steps end."""

from wantprices.bounds import last_prices
from wantprices.errors import Beyond
from wantprices.kinds import refuse_strange
from wantprices.moves import other_way
from wantprices.stepping import steps_on


def rising_from(town, prices):
    """(row, prices): the heaps that are taken from below, from these prices on, and the prices at the end."""
    refuse_strange(town)
    return steps_on_to_the_last(town, prices)


def falling_from(town, prices):
    """(row, prices): the heaps that are taken from above, from these prices on, and the prices at the end."""
    refuse_strange(town)
    return steps_on_to_the_last(other_way(town), prices)


def steps_on_to_the_last(town, prices):
    """(row, prices) of the steps from below, refused where a price lies beyond the last one."""
    lasts = last_prices(town)
    for thing, side in enumerate(town[0]):
        if lies_beyond(side, prices[thing], lasts[thing]):
            raise Beyond(thing)
    return steps_on(town, prices)


def lies_beyond(side, price, last):
    """Whether steps, which make a price of side 0 more and one of side 1 less, lead away from the last one."""
    return price < last if side == 1 else price > last
