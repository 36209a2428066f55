"""Prices that meet, or shares that show that none do."""

from wantprices.sharing import shares
from wantprices.sums import best_dealing, greatest


def meeting(town):
    """("prices", by, numbers, dealing), prices that meet, or ("none", by, rows), shares that show that none do."""
    by, rows, numbers, gains = shares(town)
    # No shares are worth more than these: where they are worth no more than the best dealing,
    # gains and numbers together are the least surplus, and the numbers are prices that meet.
    if sum(gains) + sum(numbers) == by * greatest(town):
        return ("prices", by, numbers, best_dealing(town))
    return ("none", by, rows)
