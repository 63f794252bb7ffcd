"""What the program refuses, one class for each kind of refusal."""


class TellError(ValueError):
    """Any refusal."""


class NoPair(TellError):
    """No pair of two rows of the same letters (or no learning pair)."""


class NoEvents(TellError):
    """No list of events such as may be told here."""


class NoRow(TellError):
    """No row."""


class NoLetter(TellError):
    """No letter of the row, or no list of such."""


class NoRings(TellError):
    """No list of rings as they are told of a pair."""


class NotOne(TellError):
    """Not just one ring."""


class NoNumber(TellError):
    """No number of rounds."""


class NoPlaces(TellError):
    """No list of places of the row."""


class NoHearers(TellError):
    """No list of one to four hearers' rows."""


class TooMany(TellError):
    """More than are gone through; many tells how many at most."""

    def __init__(self, many):
        self.many = many


class NoText(TellError):
    """A text that writes nothing of the kind."""
