"""Places whose clocks are put forward and back by rules."""

from hourhouse.clocks import DAY_MINUTES, Place
from hourhouse.errors import NoPlace
from hourhouse.listing import days_of

MOST_SHIFT = 120


def check_put(minute, shift):
    """Refuse a minute or a shift out of its bounds."""
    if minute < 0 or minute >= DAY_MINUTES:
        raise NoPlace("the minute of the changes is out of its bounds")
    if shift < 1 or shift > MOST_SHIFT:
        raise NoPlace("the shift of the changes is out of its bounds")


def place_by(name, offset, forward, back, begin, end, minute=60, shift=60):
    """The place whose clock is put forward by shift on the days of one rule, and back on those of another."""
    check_put(minute, shift)
    offsets = {}
    for day in days_of(back, begin, end):
        offsets[day] = offset
    # Behind the other, as a day on which both fall counts for forward alone.
    for day in days_of(forward, begin, end):
        offsets[day] = offset + shift
    changes = [(day * DAY_MINUTES + minute, offsets[day]) for day in sorted(offsets)]
    return Place(name, offset, tuple(changes))
