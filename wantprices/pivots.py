"""Greatest sums within bounds, by whole numbers alone: a table that is turned about one place after another.

A table is a list of rows of whole numbers, one row for each bound, which stands at its end, and last
that of the sum; all its numbers are parts, by a whole number that the whole table has in common.
"""


def solved(table, chosen):
    """(by, table, chosen) where no column makes the sum greater; chosen has for each bound the column that fills it."""
    by = 1
    column = entering(table)
    while column is not None:
        at = leaving(table, chosen, column)
        table, by = pivoted(table, at, column, by), table[at][column]
        chosen = chosen[:at] + [column] + chosen[at + 1:]
        column = entering(table)
    return (by, table, chosen)


def entering(table):
    """The first column that makes the sum greater, None where there is none."""
    # To take the first one here and in leaving is what keeps the same table from coming again and again.
    for column, number in enumerate(table[-1][:-1]):
        if number < 0:
            return column
    return None


def leaving(table, chosen, column):
    """The row that bounds the column most; of several the one whose chosen column is first."""
    best = None
    for at, row in enumerate(table[:-1]):
        if row[column] > 0 and (best is None or bounds_more(table, chosen, column, at, best)):
            best = at
    return best


def bounds_more(table, chosen, column, one, other):
    """Whether the one row bounds the column more than the other, or as much and its chosen column is first."""
    mine = table[one][-1] * table[other][column]
    others = table[other][-1] * table[one][column]
    return mine < others or mine == others and chosen[one] < chosen[other]


def pivoted(table, at, column, by):
    """The table turned about the place, in parts of the number there instead of by."""
    pivot = table[at][column]
    # Nothing is lost by the division: each number of a table is a determinant of a part of the first one.
    return [
        row if here == at else [(number * pivot - row[column] * other) // by for number, other in zip(row, table[at])]
        for here, row in enumerate(table)
    ]
