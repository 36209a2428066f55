"""Texts that show towns, prices, dealings and shares."""

from wantprices.dealings import LEFT


def show_town(town):
    """A line of the sides, then a line of each want."""
    sides, wants = town
    return "\n".join([f"sides {in_row(sides)}"] + [f"want {in_row(want)}" for want in wants])


def show_prices(by, numbers):
    """Prices in parts."""
    return f"{by} : {in_row(numbers)}"


def show_dealing(dealing):
    """For each thing its hand, or a stroke where it is left."""
    return in_row(["-" if hand == LEFT else hand for hand in dealing])


def show_shares(by, rows):
    """By, and all rows."""
    return " ; ".join([str(by)] + [in_row(row) for row in rows])


def in_row(parts):
    """Numbers and words, parted by one blank."""
    return " ".join([str(part) for part in parts])
