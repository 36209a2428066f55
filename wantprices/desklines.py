"""The lines of a desk: what is told to each of them, and which town is there behind it."""

from wantprices.bounds import high_prices, low_prices
from wantprices.dealings import is_dealing
from wantprices.errors import NotOfKind
from wantprices.finding import meeting
from wantprices.heaps import things_in
from wantprices.kinds import breaking
from wantprices.meetings import meets
from wantprices.paying import pays
from wantprices.reading import (
    need, parted, read_dealing, read_number, read_numbers, read_prices, read_shares, read_want,
)
from wantprices.sharelooks import is_share, shows_none
from wantprices.showing import in_row, show_dealing, show_prices, show_shares, show_town
from wantprices.stepping import falling, rising
from wantprices.sums import best_dealing, greatest
from wantprices.towns import MOST_HANDS, without_hand
from wantprices.wanting import best_heaps

MOST_PRICE = 1000000


def tell_town(town):
    """The town's text in one line."""
    return show_town(town).replace("\n", "/")


def tell_deal(town):
    """The greatest sum and the best dealing."""
    return f"{greatest(town)} {show_dealing(best_dealing(town))}"


def tell_meet(town):
    """Prices that meet and the dealing, or shares by which none do."""
    told = meeting(town)
    if told[0] == "none":
        return f"none | {show_shares(told[1], told[2])}"
    return f"prices | {show_prices(told[1], told[2])} | {show_dealing(told[3])}"


def tell_rise(town):
    """How many steps from below there are, and where they end."""
    return tell_steps(rising(town))


def tell_fall(town):
    """How many steps from above there are, and where they end."""
    return tell_steps(falling(town))


def tell_steps(way):
    """How many steps (row, prices) has, and the prices."""
    row, prices = way
    return f"{len(row)} {in_row(prices)}"


def tell_low(town):
    """The low prices."""
    return in_row(low_prices(town))


def tell_high(town):
    """The high prices."""
    return in_row(high_prices(town))


def tell_pay(town):
    """What each hand pays by the best dealing."""
    return in_row(pays(town, best_dealing(town)))


def tell_take(town, words):
    """The best heaps of a hand at prices."""
    hand = read_hand(town, words[:1])
    prices = read_numbers(words[1:])
    need(len(prices) == len(town[0]) and max(prices) <= MOST_PRICE, "those are no prices of the town's things")
    return in_row([show_heap(heap) for heap in best_heaps(town[1][hand], prices)])


def show_heap(heap):
    """The heap's things by points, a stroke for none."""
    return "-" if heap == 0 else ".".join([str(thing) for thing in things_in(heap)])


def tell_kind(town, words):
    """Whether the want of a hand is of its sides, and else what breaks it."""
    broken = breaking(town[1][read_hand(town, words)], town[0])
    return "of its sides" if broken is None else in_row(broken)


def tell_ask(town, words):
    """Whether prices meet with a dealing."""
    texts = " ".join(words).split(" | ")
    need(len(texts) == 2, "asked are prices and a dealing")
    by, numbers = read_prices(texts[0])
    dealing = read_dealing(texts[1])
    need(len(numbers) == len(town[0]), "those are no prices of the town's things")
    need(is_dealing(town, dealing), "that is no dealing of the town")
    return yes_or_no(meets(town, by, numbers, dealing))


def tell_shares(town, words):
    """Whether shares show that no prices meet."""
    by, rows = read_shares(" ".join(words))
    sides, wants = town
    need(all([is_share(row, len(sides), len(wants)) for row in rows]), "those are no shares of the town")
    return yes_or_no(shows_none(town, (by, rows)))


def yes_or_no(holds):
    """The word for a truth."""
    return "yes" if holds else "no"


def come(town, words):
    """One hand more, the last one."""
    sides, wants = town
    want = read_want(words, len(sides))
    if len(wants) >= MOST_HANDS:
        return ("full", town)
    return ("done", (sides, wants + (want,)))


def leave(town, words):
    """One hand fewer."""
    hand = read_hand(town, words)
    if len(town[1]) == 1:
        return ("last", town)
    return ("done", without_hand(town, hand))


def read_hand(town, words):
    """The hand of the town that the only word tells."""
    need(len(words) == 1, "one hand has to be told")
    hand = read_number(words[0])
    need(hand < len(town[1]), f"there is no hand {hand}")
    return hand


BARE = {
    "town": tell_town, "deal": tell_deal, "meet": tell_meet, "rise": tell_rise, "fall": tell_fall, "low": tell_low,
    "high": tell_high, "pay": tell_pay,
}
WORDED = {"take": tell_take, "kind": tell_kind, "ask": tell_ask, "shares": tell_shares}
CHANGING = {"hand": come, "go": leave}


def done(town, line):
    """(answer, town): what is told to anything that has to be a line, and the town behind it."""
    word, *words = parted(line, " ")
    if word in CHANGING:
        deed = CHANGING[word]
        return deed(town, words)
    return (told_to(town, word, words), town)


def told_to(town, word, words):
    """What is told to a line that changes nothing."""
    if word in WORDED:
        deed = WORDED[word]
        return deed(town, words)
    need(word in BARE and not words, "there is no such line")
    deed = BARE[word]
    try:
        return deed(town)
    except NotOfKind as e:
        return f"strange {e.hand}"
