"""Point 25: a desk and its lines; 3 (i): it answers as all the rest does."""

import unittest

from tests.samples import (
    RING, assigning, chance, fitted, nested, plain_are_shares, plain_greatest, plain_shares_worth, set_of, some_sides,
    some_want, strange_things, towns_of_sides,
)
from wantprices.bounds import high_prices, low_prices
from wantprices.desk import Desk
from wantprices.errors import NoLine, NoText, NotOfKind, WantError
from wantprices.finding import meeting
from wantprices.kinds import breaking, first_strange
from wantprices.made import some_of
from wantprices.meetings import meets, shows_meeting
from wantprices.paying import pays
from wantprices.reading import read_dealing, read_prices, read_shares, read_town
from wantprices.sharelooks import shows_none
from wantprices.showing import show_dealing, show_prices, show_shares, show_town
from wantprices.stepping import falling, rising
from wantprices.sums import best_dealing, greatest
from wantprices.wanting import best_heaps

# Hand 0 wants one thing, hand 1 the second one.
TEXT = "sides 0 0\nwant 0 4 6 6\nwant 0 0 2 2"
BARE = ("town", "deal", "meet", "rise", "fall", "low", "high", "pay")


def row_of(values):
    return " ".join(str(value) for value in values)


def shown_heap(heap):
    return ".".join(str(thing) for thing in sorted(set_of(heap))) or "-"


def made_towns(seed):
    """Towns of one to five things and hands, of all kinds, with no worth above 1000."""
    source = chance(seed)
    towns = []
    for many in range(1, 6):
        for hands in range(1, 6):
            sides = some_sides(source, many)
            towns.append((sides, tuple(some_want(source, many, source.choice((2, 1000))) for _ in range(hands))))
            towns.append((sides, tuple(fitted(assigning(source, many, 3), sides) for _ in range(hands))))
    return towns + [RING]


def steps_told(steps, town):
    """What is told of steps."""
    try:
        row, prices = steps(town)
    except NotOfKind as caught:
        return f"strange {caught.hand}"
    return row_of((len(row),) + prices)


def prices_told(prices, town):
    """What is told of low or high prices."""
    try:
        return row_of(prices(town))
    except NotOfKind as caught:
        return f"strange {caught.hand}"


def meet_told(town):
    told = meeting(town)
    if told[0] == "none":
        return "none | " + show_shares(*told[1:])
    return "prices | " + show_prices(*told[1:3]) + " | " + show_dealing(told[3])


def all_bare(town):
    """What is told to all lines of one word."""
    return {
        "town": show_town(town).replace("\n", "/"),
        "deal": f"{greatest(town)} {show_dealing(best_dealing(town))}",
        "meet": meet_told(town),
        "rise": steps_told(rising, town),
        "fall": steps_told(falling, town),
        "low": prices_told(low_prices, town),
        "high": prices_told(high_prices, town),
        "pay": row_of(pays(town, best_dealing(town))),
    }


class Lines(unittest.TestCase):

    def refuse(self, desk, line):
        """Check that the line is refused with NoLine, and changes nothing."""
        before = desk.say("town")
        with self.assertRaises(WantError, msg=line) as caught:
            desk.say(line)
        self.assertIs(type(caught.exception), NoLine)
        self.assertEqual(desk.say("town"), before)

    def test_written_out(self):
        desk = Desk(TEXT)
        for line, told in (
            ("town", "sides 0 0/want 0 4 6 6/want 0 0 2 2"),
            ("take 0 0 0", "1 0.1"), ("take 0 4 6", "- 0 1"), ("take 0 0 2", "0 1 0.1"), ("take 1 0 2", "- 0 1 0.1"),
            ("take 1 1000000 1000000", "-"), ("take 0 5 1", "1"), ("take 0 0 9", "0"),
            ("kind 0", "of its sides"), ("kind 1", "of its sides"),
            ("deal", "6 - 0"),
            ("meet", "prices | 1 : 0 2 | - 0"),
            ("ask 1 : 0 2 | 0 1", "yes"), ("ask 1 : 0 2 | - 0", "yes"), ("ask 3 : 0 6 | 1 0", "yes"),
            ("ask 1 : 0 3 | 0 1", "no"), ("ask 1 : 0 2 | - -", "no"), ("ask 1 : 999999999 0 | 0 1", "no"),
            ("shares 1", "no"), ("shares 1 ; 0 2 1", "no"), ("shares 2 ; 0 1 2 ; 1 2 2", "no"),
            ("shares 1 ; 0 1 9 ; 0 2 9", "no"),
            ("rise", "2 0 2"), ("fall", "6 0 2"), ("low", "0 2"), ("high", "0 2"),
            ("pay", "2 0"),
        ):
            self.assertEqual(desk.say(line), told, line)
            self.assertEqual(desk.say(line), told, line)

    def test_a_strange_town(self):
        desk = Desk("sides 0 0\nwant 0 4 6 6\nwant 0 0 0 9")
        for line, told in (
            ("kind 0", "of its sides"), ("kind 1", "pair 0 0 1"), ("deal", "9 1 1"),
            ("rise", "strange 1"), ("fall", "strange 1"), ("low", "strange 1"), ("high", "strange 1"),
            ("pay", "0 6"), ("shares 2 ; 0 1 1 ; 0 2 1 ; 1 3 1", "yes"), ("shares 1 ; 1 3 1", "no"),
            ("shares 4 ; 0 1 2 ; 0 2 2 ; 1 3 2", "yes"), ("shares 2 ; 0 1 1 ; 0 2 1 ; 1 3 2", "no"),
            ("ask 1 : 4 5 | 1 1", "no"),
        ):
            self.assertEqual(desk.say(line), told, line)
        self.assertEqual(desk.say("meet")[:7], "none | ")

    def test_three_that_break(self):
        covered = tuple(2 * (heap & 3 != 0) + (heap & 5 != 0) + (heap & 4 != 0) for heap in range(8))
        broken = breaking(covered, (0, 0, 0))
        self.assertEqual(broken[0], "three")
        desk = Desk(show_town(((0, 0, 0), ((0,) * 8, covered))))
        self.assertEqual(desk.say("kind 1"), row_of(broken))
        self.assertEqual(len(desk.say("kind 1").split(" ")), 5)
        self.assertEqual(desk.say("rise"), "strange 1")

    def test_one_thing(self):
        desk = Desk("sides 1\nwant 0 5\nwant 0 3")
        for line, told in (
            ("take 0 5", "- 0"), ("take 1 4", "-"), ("kind 1", "of its sides"), ("deal", "5 0"), ("rise", "0 5"),
            ("fall", "3 3"), ("low", "5"), ("high", "3"), ("pay", "3 0"), ("ask 2 : 7 | 0", "yes"),
            ("ask 2 : 5 | 0", "no"), ("ask 2 : 7 | -", "no"), ("go 0", "done"), ("deal", "3 0"), ("pay", "0"),
        ):
            self.assertEqual(desk.say(line), told, line)

    def test_five_things(self):
        wants = (some_of((9,) * 5, 1),) * 5
        desk = Desk(show_town(((0,) * 5, wants)))
        self.assertEqual(desk.say("take 4 9 9 9 9 9"), "- 0 1 2 3 4")
        self.assertEqual(desk.say("take 4 9 8 9 9 8"), "1 4")
        self.assertEqual(desk.say("take 0 0 0 0 0 0").split(" ")[-1], "0.1.2.3.4")
        self.assertEqual(desk.say("deal"), "45 0 1 2 3 4")
        self.assertEqual((desk.say("low"), desk.say("high")), ("0 0 0 0 0", "9 9 9 9 9"))
        self.assertEqual(desk.say("rise"), "0 0 0 0 0 0")

    def test_as_all_the_rest_does(self):
        source = chance(621)
        kinds = set()
        for town in made_towns(622):
            many, hands = len(town[0]), len(town[1])
            desk = Desk(show_town(town))
            for line, told in all_bare(town).items():
                self.assertEqual(desk.say(line), told)
                self.assertIs(type(desk.say(line)), str)
            for hand, want in enumerate(town[1]):
                prices = tuple(source.randint(0, source.choice((1, 3, 1000))) for _ in range(many))
                heaps = [shown_heap(heap) for heap in best_heaps(want, prices)]
                self.assertEqual(desk.say(f"take {hand} {row_of(prices)}"), " ".join(heaps))
                broken = breaking(want, town[0])
                self.assertEqual(desk.say(f"kind {hand}"), row_of(broken) if broken else "of its sides")
                dealing = tuple(source.randint(-1, hands - 1) for _ in range(many))
                said = desk.say(f"ask 2 : {row_of(prices)} | {show_dealing(dealing)}")
                self.assertEqual(said, "yes" if meets(town, 2, prices, dealing) else "no")
            kinds.add(meeting(town)[0])
            kinds.add(first_strange(town) is None)
        self.assertEqual(len(kinds), 4)

    def test_what_it_tells_it_takes_again(self):
        for town in made_towns(623):
            desk = Desk(show_town(town))
            kind, *texts = desk.say("meet").split(" | ")
            if kind == "prices":
                by, numbers = read_prices(texts[0])
                self.assertIs(shows_meeting(town, (by, numbers, read_dealing(texts[1]))), True)
                self.assertEqual(desk.say("ask " + " | ".join(texts)), "yes")
            else:
                by, rows = read_shares(texts[0])
                self.assertIs(shows_none(town, (by, rows)), True)
                self.assertTrue(plain_are_shares(town, by, rows))
                self.assertGreater(plain_shares_worth(town, rows), by * plain_greatest(town))
                self.assertEqual(desk.say("shares " + texts[0]), "yes")
            self.assertEqual(read_town(desk.say("town").replace("/", "\n")), town)
            if desk.say("rise")[:7] != "strange":
                for line in ("low", "high"):
                    self.assertEqual(desk.say(f"ask 1 : {desk.say(line)} | {show_dealing(best_dealing(town))}"), "yes")

    def test_a_word_too_many_or_too_few(self):
        desk = Desk(TEXT)
        for word in BARE:
            for line in (word + " ", " " + word, word + " 0", word + " " + word, word + "\n", word.upper(), word[:-1],
                         word + "s", word + "|", word + "  ", "\n" + word):
                self.refuse(desk, line)
        for line in (
            "", " ", "\n", "/", "Town", "sell 0", "help", "take", "take ", "take 0", "take 0 1", "take 0 1 1 1",
            "take 2 0 0",
            "take -1 0 0", "take 0 0 -1", "take 0 0 01", "take 00 0 0", "take 0 0 1000001", "take 0 1000001 0",
            "take 0 0 1000000000", "take  0 0 0", "take 0  0 0", "take 0 0 0 ", " take 0 0 0", "take 0 0 a",
            "take a 0 0",
            "take 0 0 0\n", "take 0 0.5 0", "take 0 : 0 0", "take 0 0 -", "take - 0 0",
            "kind", "kind ", "kind 2", "kind 00", "kind 0 0", "kind -1", "kind  0", "kind 0 ", "kind a", "kind -",
            "kind 10",
            "kind 1000000000", "kinds 0",
        ):
            self.refuse(desk, line)

    def test_texts_that_are_none_of_this_town(self):
        desk = Desk(TEXT)
        for line in (
            "ask", "ask ", "ask 1 : 0 2", "ask 0 1", "ask | 0 1", "ask 1 : 0 2 |", "ask 1 : 0 2 | ", "ask 1 : 0 2 |0 1",
            "ask 1 : 0 2| 0 1", "ask 1 : 0 2 | 0", "ask 1 : 0 2 | 0 1 -", "ask 1 : 0 2 | 0 2", "ask 1 : 0 | 0 1",
            "ask 1 : 0 2 0 | 0 1", "ask 0 : 0 2 | 0 1", "ask 1 : 0 02 | 0 1", "ask 1 : 0 2 | 0 1 | 0 1",
            "ask 0 1 | 1 : 0 2",
            "ask 1 : 0 2 / 0 1", "ask 1 : 0 2 | 0 1 ", "ask  1 : 0 2 | 0 1", "ask 1 : 0 2  | 0 1", "ask 1 : 0 2 |  0 1",
            "ask 1 : 0 1000000000 | 0 1", "ask 1 : 0 2 | -1 1", "ask 1 : 0 2 | 0 5", "ask 1 : - 2 | 0 1", "ask 1 | 0 1",
            "ask 1 : 0 2 | 0 1\n", "ask 1 0 2 | 0 1", "Ask 1 : 0 2 | 0 1",
            "shares", "shares ", "shares 0", "shares 1 ;", "shares 1 ; 2 1 1", "shares 1 ; 0 4 1", "shares 1 ; 0 0 1",
            "shares 1 ; 0 1 0", "shares 1 ; 0 1", "shares 1 ; 0 1 1 ; 0 1 1", "shares 1 ; 0 2 1 ; 0 1 1", "shares  1",
            "shares 1 ", "shares 1 ; 0 1 1 ; 2 1 1", "shares 1 ; 0 1 1 ; 1 4 1", "shares 01", "shares 1 | 0 1 1",
            "shares 1000000000", "shares 1 ; 5 1 1", "shares 1 ; 0 32 1", "shares 1\n", "share 1", "shares 1 0 1 1",
        ):
            self.refuse(desk, line)

    def test_anything_is_refused(self):
        desk = Desk(TEXT)
        things = [thing for thing in strange_things() if not isinstance(thing, str)]
        things += [b"town", ["town"], ("town",), {"town": 1}, 0, 1, nested(30, "town", lambda part: [part])]
        for thing in things:
            self.refuse(desk, thing)

    def test_no_desk(self):
        things = [thing for thing in strange_things() if not isinstance(thing, str)]
        for thing in things + ["", "sides 0", "sides 0\nwant 0 1001", TEXT + "\n", TEXT.replace("\n", "/"), [TEXT]]:
            with self.assertRaises(WantError) as caught:
                Desk(thing)
            self.assertIs(type(caught.exception), NoText)

    def test_by_name(self):
        self.assertEqual(Desk(text=TEXT).say(line="deal"), "6 - 0")


class Hands(unittest.TestCase):

    def refuse(self, desk, line):
        before = [desk.say(word) for word in BARE]
        with self.assertRaises(NoLine, msg=line):
            desk.say(line)
        self.assertEqual([desk.say(word) for word in BARE], before)

    def test_they_come_and_go(self):
        desk = Desk("sides 0 1\nwant 0 1 2 3")
        self.assertEqual(desk.say("go 0"), "last")
        for hand in range(1, 5):
            self.assertEqual(desk.say(f"hand 0 {hand} {hand} 9"), "done")
            # The new one is the last one.
            self.assertEqual(desk.say("town").split("/")[-1], f"want 0 {hand} {hand} 9")
            self.assertEqual(len(desk.say("pay").split(" ")), hand + 1)
            self.assertEqual(desk.say(f"take {hand} 0 0"), "0.1")
        full = "sides 0 1/want 0 1 2 3/want 0 1 1 9/want 0 2 2 9/want 0 3 3 9/want 0 4 4 9"
        self.assertEqual(desk.say("town"), full)
        self.assertEqual(desk.say("hand 0 1 1 1"), "full")
        self.assertEqual(desk.say("town"), full)
        self.refuse(desk, "go 5")
        self.assertEqual(desk.say("go 1"), "done")
        self.assertEqual(desk.say("town"), "sides 0 1/want 0 1 2 3/want 0 2 2 9/want 0 3 3 9/want 0 4 4 9")
        self.assertEqual(desk.say("hand 0 0 0 0"), "done")
        self.assertEqual(desk.say("hand 0 0 0 0"), "full")
        self.assertEqual(desk.say("go 0"), "done")
        self.assertEqual(desk.say("go 3"), "done")
        self.assertEqual(desk.say("town"), "sides 0 1/want 0 2 2 9/want 0 3 3 9/want 0 4 4 9")
        self.assertEqual([desk.say("go 1"), desk.say("go 1")], ["done", "done"])
        self.assertEqual(desk.say("town"), "sides 0 1/want 0 2 2 9")
        self.assertEqual(desk.say("go 0"), "last")
        self.assertEqual(desk.say("town"), "sides 0 1/want 0 2 2 9")
        self.refuse(desk, "go 1")

    def test_refused(self):
        full = "sides 0 0" + "\nwant 0 4 6 6" * 5
        for text in (TEXT, full, "sides 1 0\nwant 0 0 0 0"):
            desk = Desk(text)
            for line in (
                "hand", "hand ", "hand 0", "hand 0 1 1", "hand 0 1 1 1 1", "hand 1 1 1 1", "hand 0 2 1 1",
                "hand 0 1 2 1",
                "hand 0 1 1 1001", "hand 0 1 1 1000000000", "hand 0 1 1 -1", "hand 0 1 1 01", "hand  0 1 1 1",
                "hand 0 1 1 1 ", "hand 0 1  1 1", "hand 0 1 1 a", "hand 0 1 1 1\n", "hand want 0 1 1 1", "Hand 0 1 1 1",
                "hand 0 1 1 1/0 1 1 1", "hand -", " hand 0 1 1 1", "hand 0 1 1 1 1 1 1 1",
                "go", "go ", "go -1", "go 00", "go 0 0", "go 5", "go a", "go 0 ", "go  0", "go 1000000000", "go 0\n",
                "Go 0",
                "go -", " go 0",
            ):
                self.refuse(desk, line)

    def test_worths_up_to_a_thousand(self):
        desk = Desk("sides 0\nwant 0 1000")
        self.assertEqual(desk.say("hand 0 1000"), "done")
        self.refuse(desk, "hand 0 1001")
        self.assertEqual((desk.say("low"), desk.say("high"), desk.say("rise")), ("1000", "1000", "1000 1000"))

    def test_as_a_desk_of_the_same_town(self):
        source = chance(631)
        for many in range(1, 6):
            sides = some_sides(source, many)
            wants = [fitted(assigning(source, many, 3), sides)]
            desk = Desk(show_town((sides, tuple(wants))))
            for _ in range(15):
                if source.random() < 0.6:
                    want = source.choice((fitted(assigning(source, many, 3), sides), some_want(source, many, 2)))
                    told = desk.say("hand " + row_of(want))
                    self.assertEqual(told, "full" if len(wants) == 5 else "done")
                    wants = wants + [want] * (len(wants) < 5)
                else:
                    hand = source.randrange(len(wants))
                    self.assertEqual(desk.say(f"go {hand}"), "last" if len(wants) == 1 else "done")
                    wants = wants[:hand] + wants[hand + 1:] if len(wants) > 1 else wants
                line = source.choice(BARE)
                self.assertEqual(desk.say(line), all_bare((sides, tuple(wants)))[line])
                self.assertEqual(desk.say("town"), show_town((sides, tuple(wants))).replace("\n", "/"))

    def test_two_desks_are_apart(self):
        one, other = Desk(TEXT), Desk(TEXT)
        one.say("go 0")
        self.assertEqual(other.say("town"), TEXT.replace("\n", "/"))
        self.assertEqual(one.say("town"), "sides 0 0/want 0 0 2 2")

    def test_a_hand_more_makes_nothing_cheaper(self):
        for town in towns_of_sides(632, (3,), 3, 4):
            if any(town[0]):
                continue
            desk = Desk(show_town(town))
            before = [desk.say("low").split(" "), desk.say("high").split(" ")]
            desk.say("hand " + row_of(town[1][0]))
            after = [desk.say("low").split(" "), desk.say("high").split(" ")]
            for one, other in zip(before, after):
                self.assertTrue(all(int(here) <= int(there) for here, there in zip(one, other)))


if __name__ == "__main__":
    unittest.main()
