"""The days on which a rule falls, listed and counted."""

from hourhouse.days import DAYS

# How many days a search looks at first, before it looks at more and more.
FIRST_WIDTH = 64


def days_of(rule, begin=0, end=146097):
    """The list of the days from begin on, below end, on which a rule falls, in order."""
    return rule.days_in(max(begin, 0), min(end, DAYS))


def count_of(rule, begin=0, end=146097):
    """On how many days from begin on, below end, a rule falls."""
    return len(days_of(rule, begin, end))


def nth_of(rule, many, begin=0, end=146097):
    """The day behind so many of those from begin on, below end, on which a rule falls, or None."""
    day = max(begin, 0)
    stop = min(end, DAYS)
    ahead = many
    width = FIRST_WIDTH
    while day < stop:
        upto = min(day + width, stop)
        found = days_of(rule, day, upto)
        if ahead < len(found):
            return found[ahead]
        ahead -= len(found)
        day = upto
        width += width
    return None
