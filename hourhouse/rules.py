"""Rules that fall on some days: Rule itself, which falls on none, and the simple ones."""

from hourhouse.days import DAYS, FIRST_YEAR, date_of, is_day, month_begin, month_days, month_of, weekday
from hourhouse.errors import NoRule

# A leap year: in it each month has as many days as it ever has.
LONG_YEAR = 2000
MOST_EVERY = 1000


def check_bounds(number, least, most):
    """Refuse a number that isn't from least to most."""
    # The number stays out of the error's words: one of some thousand figures has no text.
    if number < least or number > most:
        raise NoRule("a number of the rule is out of its bounds")


def check_day(number):
    """Refuse a number that is no day."""
    if not is_day(number):
        raise NoRule("a day of the rule is none")


def check_every(first, every):
    """Refuse a first that is no day, or an every out of its bounds."""
    check_day(first)
    check_bounds(every, 1, MOST_EVERY)


def week_of(day):
    """The number of the week of a day, weeks being from Monday to Sunday; that of day 0 is 0."""
    return (day + weekday(0)) // 7


def week_begin(number):
    """The Monday of a week."""
    return number * 7 - weekday(0)


def day_of_date(number, date):
    """The day of a date in the month of a number, from the month's end below nought, or None."""
    begin = month_begin(number)
    end = month_begin(number + 1)
    found = begin + date - 1 if date > 0 else end + date
    return found if begin <= found < end else None


def day_of_nth(number, which, weekday_of):
    """The which-th of a weekday in the month of a number, from the month's end below nought, or None."""
    begin = month_begin(number)
    end = month_begin(number + 1)
    if which > 0:
        found = begin + (weekday_of - weekday(begin)) % 7 + (which - 1) * 7
    else:
        found = end - 1 - (weekday(end - 1) - weekday_of) % 7 + (which + 1) * 7
    return found if begin <= found < end else None


def count_below(days, number):
    """How many of some rising days are below a number."""
    low = 0
    high = len(days)
    while low < high:
        middle = (low + high) // 2
        if days[middle] < number:
            low = middle + 1
        else:
            high = middle
    return low


class Rule:
    """A rule that falls on no day; all others stand under it."""

    def falls_on(self, day):
        """Whether the rule falls on a day; False of a number that is no day."""
        return False

    def next_in(self, day=0, end=146097):
        """The first day from day on, below end, on which the rule falls, or None."""
        return None

    def days_in(self, begin, end):
        """The list of the days from begin on, below end, on which the rule falls, in order."""
        found = []
        day = self.next_in(begin, end)
        while day is not None:
            found.append(day)
            day = self.next_in(day + 1, end)
        return found


class Every(Rule):
    """First, and each day a multiple of step days behind it."""

    def __init__(self, step, first=0):
        check_bounds(step, 1, DAYS - 1)
        check_day(first)
        self.step = step
        self.first = first

    def falls_on(self, day):
        return is_day(day) and day >= self.first and (day - self.first) % self.step == 0

    def next_in(self, day=0, end=146097):
        begin = max(day, self.first)
        found = begin + (self.first - begin) % self.step
        return found if found < min(end, DAYS) else None

    def days_in(self, begin, end):
        day = self.next_in(begin, end)
        return [] if day is None else list(range(day, min(end, DAYS), self.step))


class Weekly(Rule):
    """The weekdays of mask, in each week a multiple of every weeks behind that of first."""

    def __init__(self, mask, first=0, every=1):
        check_bounds(mask, 1, 127)
        check_every(first, every)
        self.mask = mask
        self.first = first
        self.every = every

    def has_weekday(self, day):
        """Whether the weekday of a day is one of mask."""
        return (self.mask >> weekday(day)) % 2 == 1

    def weeks_over(self, day):
        """How many weeks the week of a day is behind the last one that counts."""
        return (week_of(day) - week_of(self.first)) % self.every

    def falls_on(self, day):
        if not is_day(day) or day < self.first:
            return False
        return self.weeks_over(day) == 0 and self.has_weekday(day)

    def next_in(self, day=0, end=146097):
        found = max(day, self.first)
        stop = min(end, DAYS)
        while found < stop:
            over = self.weeks_over(found)
            if over > 0:
                found = week_begin(week_of(found) + self.every - over)
            elif self.has_weekday(found):
                return found
            else:
                found += 1
        return None


class ByMonth(Rule):
    """Under it stand the rules that fall at most once in a month, in months a multiple of stride from origin."""

    def __init__(self, origin, stride, first):
        self.origin = origin
        self.stride = stride
        self.first = first

    def day_in(self, number):
        """The day of the rule in the month of a number, or None where the month hasn't it."""
        return None

    def falls_on(self, day):
        if not is_day(day) or day < self.first:
            return False
        number = month_of(day)
        return (number - self.origin) % self.stride == 0 and self.day_in(number) == day

    def next_in(self, day=0, end=146097):
        begin = max(day, self.first)
        stop = min(end, DAYS)
        if begin >= stop:
            return None
        number = month_of(begin)
        number += (self.origin - number) % self.stride
        while month_begin(number) < stop:
            found = self.day_in(number)
            if found is not None and begin <= found < stop:
                return found
            number += self.stride
        return None


class Monthly(ByMonth):
    """A date of each month a multiple of every months behind that of first."""

    def __init__(self, date, first=0, every=1):
        check_bounds(abs(date), 1, 31)
        check_every(first, every)
        ByMonth.__init__(self, month_of(first), every, first)
        self.date = date
        self.every = every

    def day_in(self, number):
        return day_of_date(number, self.date)


class Nth(ByMonth):
    """The which-th of a weekday in each month a multiple of every months behind that of first."""

    def __init__(self, which, weekday_of, first=0, every=1):
        check_bounds(abs(which), 1, 5)
        check_bounds(weekday_of, 0, 6)
        check_every(first, every)
        ByMonth.__init__(self, month_of(first), every, first)
        self.which = which
        self.weekday_of = weekday_of
        self.every = every

    def day_in(self, number):
        return day_of_nth(number, self.which, self.weekday_of)


class Yearly(ByMonth):
    """A date of each year a multiple of every years behind that of first."""

    def __init__(self, month, date, first=0, every=1):
        check_bounds(month, 1, 12)
        check_bounds(date, 1, month_days(LONG_YEAR, month))
        check_every(first, every)
        year = date_of(first)[0]
        ByMonth.__init__(self, (year - FIRST_YEAR) * 12 + month - 1, every * 12, first)
        self.month = month
        self.date = date
        self.every = every

    def day_in(self, number):
        return day_of_date(number, self.date)


class Days(Rule):
    """Just the days that are told."""

    def __init__(self, days):
        for day in days:
            check_day(day)
        self.days = tuple(sorted(set(days)))

    def falls_on(self, day):
        return self.next_in(day, day + 1) is not None

    def next_in(self, day=0, end=146097):
        place = count_below(self.days, day)
        if place == len(self.days) or self.days[place] >= end:
            return None
        return self.days[place]


class Where(Rule):
    """The days of which a function tells True."""

    def __init__(self, test):
        self.test = test

    def falls_on(self, day):
        test = self.test
        # The function is asked of days alone.
        return is_day(day) and bool(test(day))

    def next_in(self, day=0, end=146097):
        for found in range(max(day, 0), min(end, DAYS)):
            if self.falls_on(found):
                return found
        return None
