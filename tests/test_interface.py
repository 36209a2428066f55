"""The interface: each name is in its module, with the arguments that the points tell; 2: nothing else is needed."""

import importlib
import inspect
import unittest
from pathlib import Path

PACKAGE = Path(__file__).resolve().parent.parent / "wantprices"

INTERFACE = {
    "heaps": "things_in(heap) heap_of(things) is_within(one,other)",
    "wants": "is_want(thing,many) lessened(want,thing)",
    "towns": "is_sides(thing) is_town(thing)",
    "made": "alone(worths) some_of(worths,many) joined(one,other) paired(sides,rows)",
    "wanting": "gain(want,prices,heap) greatest_gain(want,prices) best_heaps(want,prices)",
    "taking": "one_by_one(want,sides,prices)",
    "kinds": "turned(want,sides) breaking(want,sides) first_strange(town)",
    "exchanging": "exchanges(want,sides)",
    "exchangelooks": "shows_exchanges(want,sides,thing)",
    "pricebreaks": "price_break(want,sides)",
    "pricelooks": "shows_price_break(want,sides,thing)",
    "dealings": "is_dealing(town,thing) heaps_of(town,dealing) left_of(town,dealing) sum_of(town,dealing)",
    "sums": (
        "greatest(town) best_dealing(town) greatest_of(town,heap) greatest_without(town,hand)"
        " greatest_with_two(town,thing)"
    ),
    "meetings": (
        "meets(town,by,numbers,dealing) shows_meeting(town,thing) surplus(town,by,numbers) are_meeting(town,by,numbers)"
    ),
    "sharing": "shares(town)",
    "sharelooks": "shows_none(town,thing) shows_shares(town,thing)",
    "finding": "meeting(town)",
    "stepping": "rising(town) falling(town)",
    "steplooks": "shows_rising(town,thing) shows_falling(town,thing)",
    "asks": "asked(town,prices,heap,way) change(town,prices,heap,way) asked_step(town,prices,way)",
    "bounds": "least_price(town,thing) greatest_price(town,thing) low_prices(town) high_prices(town)",
    "goingon": "rising_from(town,prices) falling_from(town,prices)",
    "middles": "lower(sides,one,other) higher(sides,one,other) middles(sides,one,other) between(one,other)",
    "paying": (
        "lost_without(town,hand) pays(town,dealing) spared(town,by,numbers,dealing) told_otherwise(town,hand,want)"
    ),
    "showing": "show_town(town) show_prices(by,numbers) show_dealing(dealing) show_shares(by,rows)",
    "reading": "read_town(text) read_prices(text) read_dealing(text) read_shares(text)",
    "desk": "Desk(text)",
    "errors": "NotOfKind(hand) Beyond(thing)",
}


def shape(value):
    """The name of a function or a class, and those of its arguments."""
    return f"{value.__name__}({','.join(inspect.signature(value).parameters)})"


class Interface(unittest.TestCase):

    def test_names_and_arguments(self):
        for module, row in INTERFACE.items():
            drawn = importlib.import_module(f"wantprices.{module}")
            for told in row.split():
                value = getattr(drawn, told.partition("(")[0])
                self.assertEqual(shape(value), told)
                self.assertEqual(value.__module__, drawn.__name__)

    def test_what_a_desk_is_asked(self):
        desk = importlib.import_module("wantprices.desk")
        self.assertEqual(shape(desk.Desk.say), "say(self,line)")

    def test_each_argument_has_to_be_handed_in(self):
        for module, row in INTERFACE.items():
            drawn = importlib.import_module(f"wantprices.{module}")
            for told in row.split():
                for argument in inspect.signature(getattr(drawn, told.partition("(")[0])).parameters.values():
                    self.assertIs(argument.default, inspect.Parameter.empty)

    def test_each_module_of_the_document_is_there(self):
        self.assertLessEqual(set(INTERFACE), {path.stem for path in PACKAGE.glob("*.py")})


if __name__ == "__main__":
    unittest.main()
