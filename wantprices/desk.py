"""A desk: a town that is asked, and that hands come to and go from, line by line."""

from wantprices.desklines import done
from wantprices.errors import NoLine, NoText
from wantprices.reading import read_town


class Desk:
    """A desk of the town that is written so."""

    def __init__(self, text):
        self.town = read_town(text)

    def say(self, line):
        """What is told to a line; what is none is refused, and changes nothing."""
        try:
            answer, town = done(self.town, line)
        except NoText as e:
            raise NoLine(str(e)) from None
        self.town = town
        return answer
