"""The things that take hours: those that come once, and those that come again by a rule, with exceptions."""

from hourhouse.clocks import DAY_MINUTES, MOST_OFFSET, moment_of
from hourhouse.days import is_day
from hourhouse.errors import Full, NoDay, NoThing
from hourhouse.joins import Changed
from hourhouse.listing import days_of
from hourhouse.spans import check_span, meets

MOST_LENGTH = 10080
MOST_EXCEPTIONS = 8


def check_day(day):
    """Refuse a number that is no day."""
    if not is_day(day):
        raise NoDay("a day of the exception is none")


class Once:
    """A thing that comes once."""

    def __init__(self, begin, end):
        check_span(begin, end)
        self.begin = begin
        self.end = end

    def spans_in(self, begin, end):
        """The list of its spans that take some moment from begin on, ahead of end."""
        span = (self.begin, self.end)
        return [span] if meets(span, begin, end) else []


class Again:
    """A thing that comes again by a rule; it is never changed: an exception makes another one of it."""

    def __init__(self, rule, place, minute, length, exceptions=0):
        if minute < 0 or minute >= DAY_MINUTES:
            raise NoThing("the minute of the thing is out of its bounds")
        if length < 1 or length > MOST_LENGTH:
            raise NoThing("the length of the thing is out of its bounds")
        self.rule = rule
        self.place = place
        self.minute = minute
        self.length = length
        self.exceptions = exceptions

    def days_about(self, begin, end):
        """The days of its rule on which a span may begin that takes some moment from begin on, ahead of end."""
        # What a clock shows is off the moment by no more than the greatest offset, leapt over or not.
        first = (begin - self.length - self.minute - MOST_OFFSET) // DAY_MINUTES
        last = (end - self.minute + MOST_OFFSET) // DAY_MINUTES
        return days_of(self.rule, first, last + 1)

    def spans_in(self, begin, end):
        """The list of its spans that take some moment from begin on, ahead of end, some perhaps alike."""
        moments = [moment_of(self.place, day, self.minute) for day in self.days_about(begin, end)]
        spans = [(moment, moment + self.length) for moment in moments]
        return [span for span in spans if meets(span, begin, end)]

    def changed(self, left, more, moved):
        """The thing with one exception more."""
        if self.exceptions >= MOST_EXCEPTIONS:
            raise Full("the thing has as many exceptions as it may have")
        rule = Changed(self.rule, left, more, moved)
        return Again(rule, self.place, self.minute, self.length, self.exceptions + 1)

    def without_day(self, day):
        """The thing with a day left out."""
        check_day(day)
        return self.changed((day,), (), ())

    def with_day(self, day):
        """The thing with a day added."""
        check_day(day)
        return self.changed((), (day,), ())

    def with_moved(self, day, goal):
        """The thing with a day moved to another one."""
        check_day(day)
        check_day(goal)
        return self.changed((), (), ((day, goal),))
