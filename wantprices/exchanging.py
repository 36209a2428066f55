"""Exchanges: how a thing goes from one heap to another so that both together lose nothing."""

from wantprices.heaps import less, put_in, taken_out, things_in
from wantprices.kinds import turned


def exchanges(want, sides):
    """The rising tuple of (X, Y, i, exchange) for all X, Y and i; None where one has no exchange."""
    worths = turned(want, sides)
    rows = []
    for one, other, thing in exchange_places(len(worths)):
        found = exchanges_at(worths, one, other, thing)
        if not found:
            return None
        rows.append((one, other, thing, found[0]))
    return tuple(rows)


def exchange_places(many):
    """The rising list of (X, Y, i) for all heaps below that number, i in X, not in Y."""
    return [
        (one, other, thing)
        for one in range(many)
        for other in range(many)
        for thing in things_in(less(one, other))
    ]


def exchanges_at(worths, one, other, thing):
    """The list of all exchanges for the two heaps and the thing, None first, then things rising."""
    choices = [None] + list(things_in(less(other, one)))
    return [choice for choice in choices if is_exchange(worths, one, other, thing, choice)]


def is_exchange(worths, one, other, thing, choice):
    """Whether the choice, None or a thing of the other heap that is not in the one, is an exchange."""
    giving = taken_out(one, thing)
    taking = put_in(other, thing)
    if choice is not None:
        giving = put_in(giving, choice)
        taking = taken_out(taking, choice)
    return worths[one] + worths[other] <= worths[giving] + worths[taking]
