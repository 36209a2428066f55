"""What best heaps ask for: by how much a step changes the surplus, told by best heaps alone."""

from wantprices.heaps import things_in
from wantprices.kinds import refuse_strange
from wantprices.moves import heaps_that_may, other_way, step_of
from wantprices.wanting import best_heaps


def asked(town, prices, heap, way):
    """For each hand the most that one of its best heaps gains by a step by the heap, from below or from above."""
    sides, wants = seen_from(town, way)
    return tuple([
        max([-dearer(sides, heap & best) for best in best_heaps(want, prices)]) for want in wants
    ])


def change(town, prices, heap, way):
    """By how much the surplus changes behind the step, in a town of its sides."""
    return sum(asked(town, prices, heap, way)) + dearer(seen_from(town, way)[0], heap)


def asked_step(town, prices, way):
    """The heap of the step there, found by change alone: of those of the least change the one within all others."""
    refuse_strange(town)
    may = heaps_that_may(seen_from(town, way)[0], prices)
    # The one within all others has the least number of them.
    return min([(change(town, prices, heap, way), heap) for heap in may])[1]


def seen_from(town, way):
    """The town whose steps from below are those of the town that way."""
    return town if way == "below" else other_way(town)


def dearer(sides, heap):
    """By how much the heap is dearer behind a step of all its things."""
    return sum([step_of(sides[thing]) for thing in things_in(heap)])
