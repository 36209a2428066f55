"""Of two prices the lower and the higher ones, and their middles."""

from wantprices.moves import other_sides


def lower(sides, one, other):
    """Of side 0 the lesser one of two whole prices, of side 1 the greater one."""
    return tuple([max(here, there) if side == 1 else min(here, there) for side, here, there in zip(sides, one, other)])


def higher(sides, one, other):
    """Of side 0 the greater one of two whole prices, of side 1 the lesser one."""
    return lower(other_sides(sides), one, other)


def middles(sides, one, other):
    """(low, high): half of two whole prices together, rounded down and up, low down of side 0, up of side 1."""
    sums = [here + there for here, there in zip(one, other)]
    down = [both // 2 for both in sums]
    up = [(both + 1) // 2 for both in sums]
    return (lower(sides, down, up), higher(sides, down, up))


def between(one, other):
    """The prices in parts (by, numbers) that are the middle of two prices in parts."""
    by, numbers = one
    other_by, others = other
    middle = tuple([number * other_by + there * by for number, there in zip(numbers, others)])
    return (2 * by * other_by, middle)
