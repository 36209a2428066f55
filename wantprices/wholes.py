"""Whole numbers, told from all else."""


def is_whole(thing):
    """Whether anything is a whole number."""
    # Python counts True and False among its ints; the document does not.
    return isinstance(thing, int) and not isinstance(thing, bool)


def is_whole_from(thing, least):
    """Whether anything is a whole number, the least one or above."""
    return is_whole(thing) and thing >= least
