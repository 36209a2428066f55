"""Heaps: a heap of things is the sum of 2 ** t for its things t."""


def has(heap, thing):
    """Whether the thing is in the heap."""
    return (heap >> thing) & 1 == 1


def put_in(heap, thing):
    """The heap with the thing in it, whether it was in or not."""
    return heap | (1 << thing)


def taken_out(heap, thing):
    """The heap without the thing, whether it was in or not."""
    return less(heap, 1 << thing)


def exchanged(heap, thing):
    """The heap with the thing taken out where it was in, put in where it was not."""
    return heap ^ (1 << thing)


def less(one, other):
    """The heap of the things of the one heap that are not in the other."""
    return one - (one & other)


def things_in(heap):
    """The rising tuple of the heap's things."""
    return tuple([thing for thing in range(heap.bit_length()) if has(heap, thing)])


def heap_of(things):
    """The heap of a tuple of unlike things, in whatever order."""
    return sum([1 << thing for thing in things])


def is_within(one, other):
    """Whether each thing of the one heap is in the other."""
    return less(one, other) == 0


def heap_of_side(sides, side):
    """The heap of all things of that side; of a dealing, which tells hands for sides, of all things of that hand."""
    return heap_of([thing for thing in range(len(sides)) if sides[thing] == side])
