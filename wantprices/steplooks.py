"""The lookers for steps."""

from wantprices.kinds import first_strange
from wantprices.moves import other_way, stepped
from wantprices.stepping import first_prices, steps_of
from wantprices.wholes import are_wholes


def shows_rising(town, thing):
    """Whether anything is just what rising tells of the town; no of a town that is not of its sides."""
    return is_way(town, thing) and first_strange(town) is None and is_way_below(town, thing)


def shows_falling(town, thing):
    """Whether anything is just what falling tells of the town; no of a town that is not of its sides."""
    return is_way(town, thing) and first_strange(town) is None and is_way_below(other_way(town), thing)


def is_way(town, thing):
    """Whether anything is (row, prices), a tuple of whole numbers and whole prices of the town."""
    if not isinstance(thing, tuple) or len(thing) != 2:
        return False
    row, prices = thing
    return isinstance(row, tuple) and are_wholes(row, len(row)) and are_wholes(prices, len(town[0]))


def is_way_below(town, thing):
    """Whether (row, prices) is the way of the steps from below."""
    row, prices = thing
    # To look for all steps takes long, and most of what is wrong shows without it.
    return led_by(town, row) == prices and thing == steps_of(town)


def led_by(town, row):
    """The prices to which steps by the heaps of the row lead."""
    prices = first_prices(town)
    for heap in row:
        prices = stepped(town[0], prices, heap)
    return prices
