"""The looker for exchanges: small, so that what it takes needs no trust in who made it."""

from wantprices.exchanging import exchange_places, exchanges_at
from wantprices.kinds import turned
from wantprices.wholes import are_wholes, is_whole


def shows_exchanges(want, sides, thing):
    """Whether anything is the rising rows (X, Y, i, exchange) of all X, Y and i, each exchange being one."""
    worths = turned(want, sides)
    places = exchange_places(len(worths))
    if not isinstance(thing, tuple) or len(thing) != len(places):
        return False
    return all([shows_exchange(worths, place, row) for place, row in zip(places, thing)])


def shows_exchange(worths, place, row):
    """Whether anything is a row of that (X, Y, i), with an exchange for it."""
    if not isinstance(row, tuple) or len(row) != 4 or not are_wholes(row[:3], 3):
        return False
    choice = row[3]
    if choice is not None and not is_whole(choice):
        return False
    one, other, thing = place
    return row[:3] == place and choice in exchanges_at(worths, one, other, thing)
