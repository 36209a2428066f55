"""The lookers for shares."""

from wantprices.heaps import has
from wantprices.meetings import in_parts
from wantprices.sums import greatest
from wantprices.wanting import greatest_gain
from wantprices.wholes import are_wholes, are_wholes_from, is_whole_from


def shows_none(town, thing):
    """Whether anything is shares (by, rows) that show that no prices meet."""
    if not isinstance(thing, tuple) or len(thing) != 2:
        return False
    by, rows = thing
    return are_shares(town, by, rows) and shares_worth(town, rows) > by * greatest(town)


def shows_shares(town, thing):
    """Whether anything is (by, rows, numbers, gains): shares, and what shows that none are worth more."""
    if not isinstance(thing, tuple) or len(thing) != 4:
        return False
    by, rows, numbers, gains = thing
    sides, wants = town
    if not are_shares(town, by, rows):
        return False
    if not are_wholes_from(numbers, len(sides), 0) or not are_wholes_from(gains, len(wants), 0):
        return False
    if not all([gain >= greatest_gain(in_parts(want, by), numbers) for want, gain in zip(wants, gains)]):
        return False
    return shares_worth(town, rows) == sum(gains) + sum(numbers)


def are_shares(town, by, rows):
    """Whether by and rows, each of them anything, are shares of the town."""
    if not is_whole_from(by, 1) or not isinstance(rows, tuple):
        return False
    sides, wants = town
    if not all([is_share(row, len(sides), len(wants)) for row in rows]):
        return False
    return rise_by_place(rows) and keep_bounds(town, by, rows)


def is_share(row, many, hands):
    """Whether anything is (hand, heap, part) of so many things and hands."""
    if not are_wholes(row, 3):
        return False
    hand, heap, part = row
    return 0 <= hand < hands and 0 < heap < 1 << many and part > 0


def rise_by_place(rows):
    """Whether rows (hand, heap, part) rise, hand and heap of no two alike."""
    places = [row[:2] for row in rows]
    return places == sorted(set(places))


def keep_bounds(town, by, rows):
    """Whether for each hand and for each thing the parts are together at most by."""
    sides, wants = town
    of_hands = [sum([part for hand, heap, part in rows if hand == here]) for here in range(len(wants))]
    of_things = [sum([part for hand, heap, part in rows if has(heap, thing)]) for thing in range(len(sides))]
    return max(of_hands + of_things) <= by


def shares_worth(town, rows):
    """All parts times the worth of the heap to the hand, together."""
    return sum([part * town[1][hand][heap] for hand, heap, part in rows])
