"""What several tests share."""

import datetime

from hourhouse import errors

NAMES = (
    "NoDay", "NoText", "NoRule", "NoPlace", "NoSpan", "NoThing", "Known", "Full",
    "NoLetter", "NoHand", "NoWord", "NoMeeting", "Closed", "Busy",
)
# More figures than Python gives a text to: an error's words must not try to.
HUGE = 10 ** 5000


def check_refused(case, error, deed, *arguments):
    """A deed is refused with just this class, which is a HouseError and a ValueError."""
    with case.assertRaises(error) as caught:
        deed(*arguments)
    case.assertIs(type(caught.exception), error)
    case.assertIsInstance(caught.exception, errors.HouseError)
    case.assertIsInstance(caught.exception, ValueError)
    for name in NAMES:
        if name != error.__name__:
            case.assertNotIsInstance(caught.exception, getattr(errors, name))


def date_of_day(day):
    """A day's date as Python's own calendar tells it."""
    return datetime.date(2000, 1, 1) + datetime.timedelta(days=day)
