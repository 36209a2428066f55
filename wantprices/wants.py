"""Wants: a tuple of the worths of all heaps, each at its heap's number."""

from wantprices.heaps import taken_out, things_in
from wantprices.wholes import are_wholes_from


def is_want(thing, many):
    """Whether anything is a want of so many things."""
    return are_wholes_from(thing, 1 << many, 0) and thing[0] == 0 and never_sinks(thing)


def never_sinks(worths):
    """Whether no heap is worth less than one that is within it."""
    # One thing less at a time is enough: each heap within is reached by such steps.
    return all([
        worths[taken_out(heap, thing)] <= worths[heap]
        for heap in range(len(worths))
        for thing in things_in(heap)
    ])


def lessened(want, thing):
    """The want by which a heap is worth what it is worth without that thing."""
    return tuple([want[taken_out(heap, thing)] for heap in range(len(want))])
