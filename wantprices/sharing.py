"""Shares of a town that are worth most, and the numbers and gains that show it."""

from wantprices.heaps import has
from wantprices.pivots import solved


def shares(town):
    """(by, rows, numbers, gains): shares, and numbers and gains that are together as much as these are worth."""
    sides, wants = town
    places = share_places(town)
    bounds = len(wants) + len(sides)
    by, table, chosen = solved(share_table(town, places), list(range(len(places), len(places) + bounds)))
    rows = [
        places[column] + (row[-1],)
        for column, row in zip(chosen, table)
        if column < len(places) and row[-1] > 0
    ]
    # In the row of the sum the columns of the bounds tell what one more of each bound is worth.
    ends = tuple(table[-1][len(places):-1])
    return (by, tuple(sorted(rows)), ends[len(wants):], ends[:len(wants)])


def share_places(town):
    """The rising list of all (hand, heap), the heap not 0."""
    sides, wants = town
    return [(hand, heap) for hand in range(len(wants)) for heap in range(1, 1 << len(sides))]


def share_table(town, places):
    """The table to be solved: a row for each hand, one for each thing, and last that of the worths."""
    sides, wants = town
    uses = [[1 if hand == here else 0 for hand, heap in places] for here in range(len(wants))]
    uses += [[1 if has(heap, thing) else 0 for hand, heap in places] for thing in range(len(sides))]
    table = [
        use + [1 if here == at else 0 for here in range(len(uses))] + [1]
        for at, use in enumerate(uses)
    ]
    return table + [[-wants[hand][heap] for hand, heap in places] + [0] * (len(uses) + 1)]
