"""Inputs for the tests, and plain ways to say the same as the program does."""

import random
from itertools import combinations, product

KINDS_TOLD = (tuple, int, str, bool, type(None))

# Each of three hands wants another two of three things: no prices meet.
RING = ((0, 0, 0), ((0, 0, 0, 1, 0, 0, 0, 1), (0, 0, 0, 0, 0, 1, 0, 1), (0, 0, 0, 0, 0, 0, 1, 1)))


def nested(deep, empty, wrap):
    """A thing of so many wrappings, one within another."""
    thing = empty
    for _ in range(deep):
        thing = wrap(thing)
    return thing


def strange_things():
    """Things that are neither a whole number from 0 on nor a tuple that holds any."""
    return [
        True, False, None, "", "0", "want", b"", b"\x00", -1, -10 ** 30,
        [], [0], [0, 1], {}, {0: 0}, set(), {0, 1}, frozenset([0]), range(2), (),
        object(), int, len, lambda: 0, NotImplemented, ...,
        nested(30, (), lambda thing: (thing,)),
        nested(30, 0, lambda thing: (0, thing)),
        nested(30, 0, lambda thing: [thing, thing]),
        nested(30, 0, lambda thing: {"a": thing}),
    ]


def spoiled(value):
    """All that comes of a nested tuple by one strange thing in one place."""
    for strange in strange_things():
        yield strange
    if isinstance(value, tuple):
        yield list(value)
        for at, part in enumerate(value):
            for worse in spoiled(part):
                yield value[:at] + (worse,) + value[at + 1:]


def parts_of(things):
    """All parts of some things, each as a frozenset."""
    things = sorted(things)
    return [frozenset(part) for many in range(len(things) + 1) for part in combinations(things, many)]


def number_of(things):
    """The heap's number, by the document's own words."""
    return sum(2 ** thing for thing in things)


def set_of(heap):
    """The frozenset of the heap's things."""
    return frozenset(thing for thing in range(16) if heap // 2 ** thing % 2)


def grown(numbers, many):
    """A want: each heap gets the greatest of the numbers at it and within it, that of 0 is 0."""
    heaps = [set_of(heap) for heap in range(2 ** many)]
    return tuple(
        max([numbers[number_of(part)] for part in heaps[1:] if part <= heap], default=0) for heap in heaps
    )


def chance(seed):
    """A source of numbers that tells the same in each run."""
    return random.Random(seed)


def some_want(source, many, most=1000):
    """A want of so many things, of no kind that is meant."""
    return grown([source.randint(0, most) for _ in range(2 ** many)], many)


def some_sides(source, many):
    """Sides of so many things."""
    return tuple(source.randint(0, 1) for _ in range(many))


def all_told(value):
    """Whether a value holds tuples, whole numbers, texts, truths and None alone."""
    if type(value) not in KINDS_TOLD:
        return False
    return not isinstance(value, tuple) or all(all_told(part) for part in value)


def are_wholes(values):
    """Whether a tuple holds whole numbers alone, no truths among them."""
    return type(values) is tuple and all(type(value) is int for value in values)


def some_prices(source, many, most=10 ** 6):
    """Prices of so many things, from minus the most to the most."""
    return tuple(source.randint(-most, most) for _ in range(many))


def all_prices_kinds(source, many):
    """Prices of several kinds: noughts, small ones, such as worths, the greatest that are asked for."""
    return [
        (0,) * many, some_prices(source, many, 3), some_prices(source, many, 1000), some_prices(source, many),
        (10 ** 6,) * many, (-10 ** 6,) * many,
    ]


def with_sides(numbers, sides):
    """A want that is, turned by the sides, the numbers, but for one and the same for each thing."""
    flips = number_of(thing for thing, side in enumerate(sides) if side == 1)
    back = [numbers[heap ^ flips] for heap in range(len(numbers))]
    # So much for each thing makes it rise, whatever the numbers are, and breaks nothing anew.
    each = max(numbers) - min(numbers)
    return tuple(back[heap] - back[0] + each * len(set_of(heap)) for heap in range(len(numbers)))


def covering(source, many):
    """Numbers that no pair breaks, all sides being 0, but perhaps three: what is covered by all things of a heap."""
    places = [(source.randint(1, 9), source.randint(0, 2 ** many - 1)) for _ in range(5)]
    return tuple(sum(worth for worth, heap in places if heap & other) for other in range(2 ** many))


def assigning(source, many, most=1000):
    """Numbers that are of sides all 0: the greatest sum where each of some places takes at most one thing."""
    places = [[source.randint(0, most) for _ in range(many)] for _ in range(source.randint(1, many))]
    told = [max([assigned(places, list(part)) for part in parts_of(set_of(heap))]) for heap in range(2 ** many)]
    return tuple(told)


def assigned(places, things):
    """The greatest sum by which each of the things goes to a place of its own, if there are as many."""
    if not things:
        return 0
    sums = [
        places[at][things[0]] + assigned(places[:at] + places[at + 1:], things[1:])
        for at in range(len(places))
    ]
    return max(sums, default=-10 ** 9)


def all_wants(many, most):
    """All wants of so many things of which no worth is above the most."""
    wants = [(0,)]
    for _ in range(many):
        wants = [low + high for low in wants for high in raised(low, most)]
    return wants


def raised(low, most):
    """All rows of worths above those of a want of a thing fewer: what its heaps are worth with one thing more."""
    rows = [()]
    for heap in range(len(low)):
        rows = [
            row + (worth,) for row in rows
            for worth in range(max([low[heap]] + [row[heap - 2 ** thing] for thing in set_of(heap)]), most + 1)
        ]
    return rows


def wants_of_all_kinds(source, many, sides):
    """Wants of no kind that is meant, one that perhaps three alone break, and one of its sides."""
    wants = [some_want(source, many, most) for most in (1, 3, 1000)]
    return wants + [with_sides(covering(source, many), sides), with_sides(assigning(source, many), sides)]


def some_town(source, many, hands, most=1000):
    """A town of so many things and hands, of no kind that is meant."""
    return (some_sides(source, many), tuple(some_want(source, many, most) for _ in range(hands)))


def town_of_sides(source, many, hands, most=1000):
    """A town of its sides of so many things and hands."""
    sides = some_sides(source, many)
    return (sides, tuple(with_sides(assigning(source, many, most), sides) for _ in range(hands)))


def all_dealings(town):
    """All dealings of a town, as tuples rise."""
    sides, wants = town
    return list(product(range(-1, len(wants)), repeat=len(sides)))


def plain_sum(town, dealing):
    """The sum of a dealing, by the document's own words."""
    return sum(
        want[number_of(thing for thing, here in enumerate(dealing) if here == hand)]
        for hand, want in enumerate(town[1])
    )


def plain_best_heaps(want, prices):
    """All best heaps as frozensets."""
    gains = [worth - sum(prices[thing] for thing in set_of(heap)) for heap, worth in enumerate(want)]
    return [set_of(heap) for heap in range(len(want)) if gains[heap] == max(gains)]


def plain_price_break(want, sides, prices, thing, heap):
    """Whether it is a price break, by the document's own words."""
    if set_of(heap) not in plain_best_heaps(want, prices):
        return False
    behind = list(prices)
    behind[thing] += 1 if sides[thing] == 0 else -1
    others = [other for other in range(len(sides)) if other != thing]
    has_to_stay = [other for other in others if sides[other] == 0 and other in set_of(heap)]
    has_to_lack = [other for other in others if sides[other] == 1 and other not in set_of(heap)]
    return not any(
        all(other in best for other in has_to_stay) and not any(other in best for other in has_to_lack)
        for best in plain_best_heaps(want, behind)
    )


def clustered_town(source, many, hands, most=1000):
    """A town of sides all 0 where things are worth something by twos or threes alone: often no prices meet there."""
    each, by = source.randint(1, most), source.randint(2, 3)
    worths = [each * (len(set_of(heap)) // by) for heap in range(2 ** many)]
    wants = [grown([worth + source.randint(0, 1) for worth in worths], many) for _ in range(hands)]
    if many == 2:
        # To two things that are wanted together alone one of them has to be wanted, too.
        wants[0] = (0,) + (each // 2 + 1,) * 3
    return ((0,) * many, tuple(wants))


def towns_of_all_kinds(seed, most_things=5, most_hands=5):
    """For all counts of things and hands towns of their sides and others, with worths small and great."""
    source = chance(seed)
    return [
        make(source, many, hands, most)
        for many in range(1, most_things + 1)
        for hands in range(1, most_hands + 1)
        for make in (some_town, town_of_sides, clustered_town)
        for most in (2, 1000)
    ]


def plain_best_in_parts(want, by, numbers):
    """All best heaps at prices in parts, as frozensets."""
    return plain_best_heaps([by * worth for worth in want], numbers)


def plain_meets(town, by, numbers, dealing):
    """Whether prices in parts meet with a dealing, by the document's own words."""
    if any(numbers[thing] != 0 for thing, hand in enumerate(dealing) if hand == -1):
        return False
    return all(
        frozenset(thing for thing, here in enumerate(dealing) if here == hand)
        in plain_best_in_parts(want, by, numbers)
        for hand, want in enumerate(town[1])
    )


def are_wholes_at_least(values, least):
    """Whether a tuple holds whole numbers from the least on alone."""
    return are_wholes(values) and all(value >= least for value in values)


def plain_are_shares(town, by, rows):
    """Whether anything, twice, is shares of a town, by the document's own words."""
    sides, wants = town
    if type(by) is not int or by < 1 or type(rows) is not tuple:
        return False
    parts = {}
    for row in rows:
        if not are_wholes(row) or len(row) != 3:
            return False
        hand, heap, part = row
        if hand not in range(len(wants)) or heap not in range(1, 2 ** len(sides)) or part < 1 or (hand, heap) in parts:
            return False
        parts[hand, heap] = part
    if list(rows) != sorted(rows):
        return False
    uses = [[part for (hand, _), part in parts.items() if hand == here] for here in range(len(wants))]
    uses += [[part for (_, heap), part in parts.items() if thing in set_of(heap)] for thing in range(len(sides))]
    return all(sum(use) <= by for use in uses)


def plain_shares_worth(town, rows):
    """What shares are worth."""
    return sum(part * town[1][hand][heap] for hand, heap, part in rows)


def plain_greatest(town):
    """The greatest sum of all dealings, by going through them."""
    return max(plain_sum(town, dealing) for dealing in all_dealings(town))


def plain_surplus(town, by, numbers):
    """All greatest gains in parts, and all numbers, by going through all heaps."""
    gains = [
        max(by * worth - sum(numbers[thing] for thing in set_of(heap)) for heap, worth in enumerate(want))
        for want in town[1]
    ]
    return sum(gains) + sum(numbers)


def plain_top(town):
    """What all things are worth to the hand to which they are worth most."""
    return sorted(want[-1] for want in town[1])[-1]


def falls(side, way):
    """Whether a step makes the price of a thing of that side one less."""
    return (side == 1) == (way == "below")


def plain_first_prices(town, way):
    """The prices at first, from below or from above."""
    return tuple(plain_top(town) if falls(side, way) else 0 for side in town[0])


def plain_stepped(town, prices, heap, way):
    """The prices behind a step by a frozenset of things; None where it may not be taken."""
    behind = list(prices)
    for thing in heap:
        if falls(town[0][thing], way):
            behind[thing] -= 1
        else:
            behind[thing] += 1
    return None if min(behind) < 0 else tuple(behind)


def plain_step(town, prices, way):
    """The things of a step, by the document's own words: of the least surplus the one within all others."""
    surpluses = {}
    for heap in parts_of(range(len(town[0]))):
        behind = plain_stepped(town, prices, heap, way)
        if behind is not None:
            surpluses[heap] = plain_surplus(town, 1, behind)
    best = [heap for heap in surpluses if surpluses[heap] == min(surpluses.values())]
    told = [heap for heap in best if all(heap <= other for other in best)]
    assert len(told) == 1
    return told[0]


def plain_steps(town, prices, way):
    """(row, prices): the steps from these prices on, and the prices at the end."""
    row = []
    heap = plain_step(town, prices, way)
    while heap:
        row.append(number_of(heap))
        prices = plain_stepped(town, prices, heap, way)
        heap = plain_step(town, prices, way)
    return (tuple(row), prices)


def greatest_difference(one, other):
    """The greatest difference of a thing's prices."""
    return max(abs(here - there) for here, there in zip(one, other))


def fitted(numbers, sides):
    """A want that is, turned by the sides, the numbers, but for as little for each thing as makes it rise."""
    flips = number_of(thing for thing, side in enumerate(sides) if side == 1)
    back = [numbers[heap ^ flips] for heap in range(len(numbers))]
    each = [
        max([0] + [back[heap] - back[heap + 2 ** thing] for heap in range(len(back)) if thing not in set_of(heap)])
        for thing in range(len(sides))
    ]
    return tuple(number - back[0] + sum(each[t] for t in set_of(heap)) for heap, number in enumerate(back))


def alone_town(source, sides, hands, most=1000):
    """A town, of whatever sides, of hands to which a heap is worth its things' worths together, at most so much."""
    many = len(sides)
    worths = [[source.randint(0, most // many) for _ in sides] for _ in range(hands)]
    return (sides, tuple(tuple(sum(here[t] for t in set_of(heap)) for heap in range(2 ** many)) for here in worths))


def towns_of_sides(seed, mosts, most_things=5, most_hands=5):
    """For all counts of things and hands towns of their sides, all 0, all 1 and mixed."""
    source = chance(seed)
    towns = []
    for many in range(1, most_things + 1):
        for hands in range(1, most_hands + 1):
            for most in mosts:
                for sides in ((0,) * many, (1,) * many, some_sides(source, many)):
                    wants = tuple(fitted(assigning(source, many, most), sides) for _ in range(hands))
                    towns.append((sides, wants))
    return towns
