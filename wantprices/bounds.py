"""The least and the greatest price of each thing, by two sums alone."""

from wantprices.heaps import taken_out
from wantprices.kinds import refuse_strange
from wantprices.moves import other_way
from wantprices.sums import greatest, greatest_of, greatest_with_two


def least_price(town, thing):
    """What a second one of the thing would add to the greatest sum."""
    return greatest_with_two(town, thing) - greatest(town)


def greatest_price(town, thing):
    """What the thing adds to the greatest sum of all others."""
    all_things = (1 << len(town[0])) - 1
    return greatest(town) - greatest_of(town, taken_out(all_things, thing))


def low_prices(town):
    """Of side 0 the least prices, of side 1 the greatest ones."""
    refuse_strange(town)
    return last_prices(town)


def high_prices(town):
    """Of side 0 the greatest prices, of side 1 the least ones."""
    refuse_strange(town)
    return last_prices(other_way(town))


def last_prices(town):
    """The prices at which the steps from below end."""
    return tuple([
        greatest_price(town, thing) if side == 1 else least_price(town, thing)
        for thing, side in enumerate(town[0])
    ])
