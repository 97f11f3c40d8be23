"""Rules made of others."""

from hourhouse.days import DAYS, is_day
from hourhouse.rules import Rule, check_bounds, check_day, count_below

MOST_MANY = 1000
# How many days a search looks at first, before it looks at more and more.
FIRST_WIDTH = 4


def merged(one, other):
    """The days of two lists, rising, each once."""
    return sorted(set(one + other)) if one and other else one + other


class Joined(Rule):
    """Under it stand the rules made of others; each tells its days by days_in, and so the next one."""

    def next_in(self, day=0, end=146097):
        begin = max(day, 0)
        stop = min(end, DAYS)
        width = FIRST_WIDTH
        # Asking the rules within for their next days would make one of them walk the same far way
        # again and again; here each is asked once of each stretch, and of none much beyond what is found.
        while begin < stop:
            upto = min(begin + width, stop)
            found = self.days_in(begin, upto)
            if found:
                return found[0]
            begin = upto
            width += width
        return None


class Either(Joined):
    """Where one or other falls, or both."""

    def __init__(self, one, other):
        self.one = one
        self.other = other

    def falls_on(self, day):
        return self.one.falls_on(day) or self.other.falls_on(day)

    def days_in(self, begin, end):
        return merged(self.one.days_in(begin, end), self.other.days_in(begin, end))


class Both(Joined):
    """Where both fall."""

    def __init__(self, one, other):
        self.one = one
        self.other = other

    def falls_on(self, day):
        return self.one.falls_on(day) and self.other.falls_on(day)

    def days_in(self, begin, end):
        return [day for day in self.one.days_in(begin, end) if self.other.falls_on(day)]


class But(Joined):
    """Where one falls and other doesn't."""

    def __init__(self, one, other):
        self.one = one
        self.other = other

    def falls_on(self, day):
        return self.one.falls_on(day) and not self.other.falls_on(day)

    def days_in(self, begin, end):
        return [day for day in self.one.days_in(begin, end) if not self.other.falls_on(day)]


class Within(Joined):
    """Where a rule falls, from begin on, below end."""

    def __init__(self, rule, begin, end):
        self.rule = rule
        self.begin = begin
        self.end = end

    def falls_on(self, day):
        return self.begin <= day < self.end and self.rule.falls_on(day)

    def days_in(self, begin, end):
        return self.rule.days_in(max(begin, self.begin), min(end, self.end))


class Shifted(Joined):
    """So many days behind each day on which a rule falls, where that is a day."""

    def __init__(self, rule, many):
        check_bounds(many, -MOST_MANY, MOST_MANY)
        self.rule = rule
        self.many = many

    def falls_on(self, day):
        return is_day(day) and self.rule.falls_on(day - self.many)

    def days_in(self, begin, end):
        found = self.rule.days_in(max(begin, 0) - self.many, min(end, DAYS) - self.many)
        return [day + self.many for day in found]


class Changed(Joined):
    """A rule with days that are left out, added, and moved to others."""

    def __init__(self, rule, left=None, more=None, moved=None):
        self.rule = rule
        self.left = () if left is None else tuple(left)
        self.more = () if more is None else tuple(more)
        self.moved = () if moved is None else tuple(moved)
        for day in self.left + self.more:
            check_day(day)
        for pair in self.moved:
            check_day(pair[0])
            check_day(pair[1])
        # Kept, as asking anew of each day whence others are moved to it would
        # take many times longer with each changed rule within another.
        self.gained = self.days_gained()
        self.lost = self.days_lost()

    def days_gained(self):
        """The days on which it falls whatever the rule says of them, rising, each once."""
        goals = [goal for day, goal in self.moved if day not in self.left and self.rule.falls_on(day)]
        return tuple(sorted(set(list(self.more) + goals)))

    def days_lost(self):
        """The days on which it doesn't fall, unless they are gained, as keys."""
        lost = {}
        for day in self.left:
            lost[day] = True
        for pair in self.moved:
            lost[pair[0]] = True
        return lost

    def has_gained(self, day):
        """Whether a number is one of the days gained."""
        place = count_below(self.gained, day)
        return place < len(self.gained) and self.gained[place] == day

    def falls_on(self, day):
        return self.has_gained(day) or (day not in self.lost and self.rule.falls_on(day))

    def days_in(self, begin, end):
        kept = [day for day in self.rule.days_in(begin, end) if day not in self.lost]
        gained = self.gained[count_below(self.gained, begin):count_below(self.gained, end)]
        return merged(kept, list(gained))
