"""Whole numbers, told from all else."""


def is_whole(thing):
    """Whether anything is a whole number."""
    # Python counts True and False among its ints; the document does not.
    return isinstance(thing, int) and not isinstance(thing, bool)


def is_whole_from(thing, least):
    """Whether anything is a whole number, the least one or above."""
    return is_whole(thing) and thing >= least


def are_wholes(thing, many):
    """Whether anything is a tuple of so many whole numbers."""
    return isinstance(thing, tuple) and len(thing) == many and all([is_whole(part) for part in thing])


def are_wholes_from(thing, many, least):
    """Whether anything is a tuple of so many whole numbers, each the least one or above."""
    return are_wholes(thing, many) and all([part >= least for part in thing])
