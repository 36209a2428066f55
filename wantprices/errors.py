"""The refusals: one class for each, all straight under WantError."""


class WantError(ValueError):
    """What all refusals of this package stand under."""


class NoText(WantError):
    """A text that is not written as it has to be; made with a text that says why."""


class NoLine(WantError):
    """A line that a desk does not know; made with a text that says why."""


class NotOfKind(WantError):
    """A town that is not of its sides; hand is the first one whose want is not."""

    def __init__(self, hand):
        WantError.__init__(self, f"the want of hand {hand} is not of the town's sides")
        self.hand = hand


class Beyond(WantError):
    """Prices from which no steps lead on; thing is the first whose price lies beyond."""

    def __init__(self, thing):
        WantError.__init__(self, f"the price of thing {thing} lies beyond where steps lead")
        self.thing = thing
