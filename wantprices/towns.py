"""Towns: the sides of the things, and the wants of the hands."""

from wantprices.wants import is_want
from wantprices.wholes import are_wholes_from

MOST_THINGS = 5
MOST_HANDS = 5


def is_sides(thing):
    """Whether anything is sides: for each of 1 to 5 things 0 or 1."""
    if not isinstance(thing, tuple) or not 1 <= len(thing) <= MOST_THINGS:
        return False
    return are_wholes_from(thing, len(thing), 0) and max(thing) <= 1


def is_town(thing):
    """Whether anything is a town: (sides, wants), wants of 1 to 5 hands."""
    if not isinstance(thing, tuple) or len(thing) != 2:
        return False
    sides, wants = thing
    if not is_sides(sides):
        return False
    if not isinstance(wants, tuple) or not 1 <= len(wants) <= MOST_HANDS:
        return False
    return all([is_want(want, len(sides)) for want in wants])


def with_want(town, hand, want):
    """The town where that hand has this want."""
    sides, wants = town
    return (sides, wants[:hand] + (want,) + wants[hand + 1:])


def without_hand(town, hand):
    """The town where that hand is no more, and the others move up."""
    sides, wants = town
    return (sides, wants[:hand] + wants[hand + 1:])
