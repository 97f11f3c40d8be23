"""The refusals of the house, a class for each."""


class HouseError(ValueError):
    """Any refusal."""


class NoDay(HouseError):
    """A number that is no day, or numbers that are no date."""


class NoText(HouseError):
    """A text that can't be read, or something that has no text."""


class NoRule(HouseError):
    """A rule of numbers out of their bounds, or of days that are none."""


class NoPlace(HouseError):
    """A place that is none."""


class NoSpan(HouseError):
    """A span that is none."""


class NoThing(HouseError):
    """A thing that isn't in a book, or can't be."""


class Known(HouseError):
    """A name that a book has already."""


class Full(HouseError):
    """No room for one more."""


class NoLetter(HouseError):
    """A letter that is none."""


class NoHand(HouseError):
    """A hand that isn't of the house, or can't be asked."""


class NoWord(HouseError):
    """A word that is no answer."""


class NoMeeting(HouseError):
    """A meeting that isn't known, or is off."""


class Closed(HouseError):
    """A meeting that is closed."""


class Busy(HouseError):
    """A hand that isn't free."""
