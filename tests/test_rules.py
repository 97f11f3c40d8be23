"""Points [2.1], [2.2], [2.4] and [2.5]: Rule itself and the simple rules."""

import bisect
import inspect
import random
import unittest

from helper import HUGE, check_refused, date_of_day
from hourhouse import rules
from hourhouse.days import day_of
from hourhouse.errors import NoRule
from hourhouse.rules import Days, Every, Monthly, Nth, Rule, Weekly, Where, Yearly

DAYS = 146097
DATES = [date_of_day(day) for day in range(0, DAYS)]
# The last day of the month of each day.
MONTH_ENDS = [0] * DAYS
for behind in range(DAYS - 1, -1, -1):
    last = behind == DAYS - 1 or DATES[behind + 1].day == 1
    MONTH_ENDS[behind] = behind if last else MONTH_ENDS[behind + 1]
NO_DAYS = (-1, -2, -7, -366, 146097, 146098, 146104, 10 ** 18, -10 ** 18, HUGE, -HUGE)


def week(day):
    """The week of a day: day -5 is a Monday."""
    return (day + 5) // 7


def month(day):
    return DATES[day].year * 12 + DATES[day].month


# Each definition below is the document's, said of one day by Python's own calendar.

def by_every(step, first=0):
    return lambda day: day >= first and (day - first) % step == 0


def by_weekly(mask, first=0, every=1):
    weekdays = [number for number in range(0, 7) if mask & 2 ** number]
    return lambda day: (
        day >= first and (week(day) - week(first)) % every == 0 and DATES[day].weekday() in weekdays)


def in_month(first, every, test):
    return lambda day: day >= first and (month(day) - month(first)) % every == 0 and test(day)


def by_monthly(date, first=0, every=1):
    if date > 0:
        return in_month(first, every, lambda day: DATES[day].day == date)
    return in_month(first, every, lambda day: MONTH_ENDS[day] - day + 1 == -date)


def by_nth(which, weekday_of, first=0, every=1):
    if which > 0:
        return in_month(first, every, lambda day: (
            DATES[day].weekday() == weekday_of and (DATES[day].day - 1) // 7 + 1 == which))
    return in_month(first, every, lambda day: (
        DATES[day].weekday() == weekday_of and (MONTH_ENDS[day] - day) // 7 + 1 == -which))


def by_yearly(month_of, date, first=0, every=1):
    return lambda day: (
        day >= first and (DATES[day].year - DATES[first].year) % every == 0
        and DATES[day].month == month_of and DATES[day].day == date)


def by_days(days):
    return lambda day: day in days


def by_where(test):
    return test


def by_none():
    return lambda day: False


FEBRUARY = day_of(2001, 2, 3)
MADE = [
    (Rule, by_none, ()),
    (Every, by_every, (1,)),
    (Every, by_every, (1, 146096)),
    (Every, by_every, (7, 3)),
    (Every, by_every, (30, 100000)),
    (Every, by_every, (1001, 146000)),
    (Every, by_every, (146095,)),
    (Every, by_every, (146096,)),
    (Every, by_every, (146096, 1)),
    (Weekly, by_weekly, (1,)),
    (Weekly, by_weekly, (64,)),
    (Weekly, by_weekly, (32, 0, 2)),
    (Weekly, by_weekly, (127, 3, 3)),
    (Weekly, by_weekly, (33, 9, 2)),
    (Weekly, by_weekly, (85, 146090)),
    (Weekly, by_weekly, (2, 4, 1000)),
    (Weekly, by_weekly, (1, 1, 1000)),
    (Weekly, by_weekly, (64, 146096, 5)),
    (Weekly, by_weekly, (16, 146096, 5)),
    (Monthly, by_monthly, (1,)),
    (Monthly, by_monthly, (28, 27)),
    (Monthly, by_monthly, (29, 58, 12)),
    (Monthly, by_monthly, (30, 40, 12)),
    (Monthly, by_monthly, (30, 60)),
    (Monthly, by_monthly, (31,)),
    (Monthly, by_monthly, (31, 100, 2)),
    (Monthly, by_monthly, (29, FEBRUARY, 12)),
    (Monthly, by_monthly, (15, 145000, 1000)),
    (Monthly, by_monthly, (1, 15)),
    (Monthly, by_monthly, (-1,)),
    (Monthly, by_monthly, (-1, 146096)),
    (Monthly, by_monthly, (-28, 5, 7)),
    (Monthly, by_monthly, (-29, FEBRUARY, 12)),
    (Monthly, by_monthly, (-30, 7)),
    (Monthly, by_monthly, (-31,)),
    (Monthly, by_monthly, (-31, 31, 1000)),
    (Nth, by_nth, (1, 0)),
    (Nth, by_nth, (1, 5)),
    (Nth, by_nth, (4, 6, 20, 3)),
    (Nth, by_nth, (5, 5)),
    (Nth, by_nth, (5, 4, FEBRUARY, 12)),
    (Nth, by_nth, (5, 0, 50, 1000)),
    (Nth, by_nth, (2, 3, 146080)),
    (Nth, by_nth, (-1, 4)),
    (Nth, by_nth, (-1, 4, 146096)),
    (Nth, by_nth, (-4, 2, 77, 5)),
    (Nth, by_nth, (-5, 1)),
    (Nth, by_nth, (-5, 6, FEBRUARY, 12)),
    (Yearly, by_yearly, (1, 1)),
    (Yearly, by_yearly, (1, 1, 1)),
    (Yearly, by_yearly, (12, 31)),
    (Yearly, by_yearly, (12, 31, 146096, 1000)),
    (Yearly, by_yearly, (2, 29)),
    (Yearly, by_yearly, (2, 29, 60)),
    (Yearly, by_yearly, (2, 29, FEBRUARY, 2)),
    (Yearly, by_yearly, (2, 29, day_of(2096, 2, 29), 4)),
    (Yearly, by_yearly, (2, 28, day_of(2100, 3, 1), 100)),
    (Yearly, by_yearly, (6, 30, day_of(2000, 9, 9), 3)),
    (Yearly, by_yearly, (11, 5, day_of(2000, 9, 9), 399)),
    (Yearly, by_yearly, (1, 31, day_of(2003, 9, 9), 400)),
    (Days, by_days, ((),)),
    (Days, by_days, ((0,),)),
    (Days, by_days, ((146096, 0, 5, 146096, 5, 4),)),
    (Days, by_days, ((70000, 3, 2, 3, 146095),)),
    (Days, by_days, (tuple(range(799, -1, -2)),)),
    (Where, by_where, (lambda day: True,)),
    (Where, by_where, (lambda day: False,)),
    (Where, by_where, (lambda day: day % 1009 == 0,)),
    (Where, by_where, (lambda day: day in (0, 146096),)),
]


def made_at_random(chance):
    first = chance.choice((0, chance.randrange(0, 400), chance.randrange(0, DAYS), 146096 - chance.randrange(0, 60)))
    every = chance.choice((1, 1, 2, 3, 4, 12, 24, 48, chance.randrange(1, 1001)))
    sign = chance.choice((1, -1))
    month_of = chance.randrange(1, 13)
    most = (31, 29, 31, 30, 31, 30, 31, 31, 30, 31, 30, 31)[month_of - 1]
    return chance.choice((
        (Every, by_every, (chance.choice((chance.randrange(1, 50), chance.randrange(1, 146097))), first)),
        (Weekly, by_weekly, (chance.randrange(1, 128), first, every)),
        (Monthly, by_monthly, (sign * chance.randrange(1, 32), first, every)),
        (Nth, by_nth, (sign * chance.randrange(1, 6), chance.randrange(0, 7), first, every)),
        (Yearly, by_yearly, (month_of, chance.randrange(1, most + 1), first, every)),
        (Days, by_days, (tuple([chance.randrange(0, DAYS) for count in range(0, chance.randrange(0, 9))]),)),
    ))


def pairs_asked(chance):
    """Days and ends to ask next_in of: near the first and the last days, all over, beyond, and the wrong way round."""
    near = [(day, end) for day in range(-3, 12) for end in range(-3, 16)]
    near += [(day + 146090, end + 146090) for day in range(-3, 10) for end in range(-3, 12)]
    far = [(day, day + length) for day in range(0, DAYS, 8011) for length in (-5, 0, 1, 2, 31, 400, 3000, DAYS)]
    wild = [(chance.randrange(-100, DAYS + 100), chance.randrange(-100, DAYS + 100)) for count in range(0, 60)]
    ends = (-HUGE, -10 ** 18, -1, 0, 1, 73000, 146096, 146097, 146098, 10 ** 18, HUGE)
    return near + far + wild + [(day, end) for day in ends for end in ends]


def first_of(falling, day, end):
    """What a plain walk through the rising days on which a rule falls comes to first."""
    place = bisect.bisect_left(falling, day)
    return falling[place] if place < len(falling) and falling[place] < end else None


class Interface(unittest.TestCase):
    def test_arguments_and_defaults(self):
        told = {
            "Rule": "()", "Every": "(step, first=0)", "Weekly": "(mask, first=0, every=1)",
            "Monthly": "(date, first=0, every=1)", "Nth": "(which, weekday_of, first=0, every=1)",
            "Yearly": "(month, date, first=0, every=1)", "Days": "(days)", "Where": "(test)",
        }
        for name, signature in told.items():
            kind = getattr(rules, name)
            self.assertEqual(str(inspect.signature(kind)), signature, name)
            self.assertEqual(str(inspect.signature(kind.falls_on)), "(self, day)")
            self.assertEqual(str(inspect.signature(kind.next_in)), "(self, day=0, end=146097)")
            self.assertTrue(issubclass(kind, Rule))

    def test_none_of_them_is_another(self):
        kinds = (Every, Weekly, Monthly, Nth, Yearly, Days, Where)
        for kind in kinds:
            self.assertEqual([other for other in kinds if issubclass(kind, other)], [kind])


class Definitions(unittest.TestCase):
    def check_falls_on(self, made):
        kind, definition, arguments = made
        rule = kind(*arguments)
        test = definition(*arguments)
        for day in range(0, DAYS):
            if rule.falls_on(day) is not test(day):
                self.fail(f"{kind.__name__}{arguments} on day {day}")
        for number in NO_DAYS:
            self.assertIs(rule.falls_on(number), False)

    def check_next_in(self, made, chance):
        kind, definition, arguments = made
        rule = kind(*arguments)
        falling = [day for day in range(0, DAYS) if rule.falls_on(day)]
        pairs = pairs_asked(chance)
        for day in falling[:5] + falling[-5:]:
            pairs += [(day + more, DAYS) for more in (-1, 0, 1)] + [(0, day + more) for more in (-1, 0, 1)]
            pairs += [(day, day), (day, day + 1), (day - 1, day), (day + 1, day + 2)]
        for day, end in pairs:
            found = rule.next_in(day, end)
            if found != first_of(falling, day, end):
                self.fail(f"{kind.__name__}{arguments}.next_in: {found}")
        for day in range(-3, DAYS, 7919):
            self.assertEqual(rule.next_in(day), first_of(falling, day, DAYS))
            self.assertEqual(rule.next_in(end=day), first_of(falling, 0, day))
        self.assertEqual(rule.next_in(), falling[0] if falling else None)

    def check_walk(self, made):
        """From each day found to the next one: all the days on which the rule falls, and no others."""
        kind, definition, arguments = made
        rule = kind(*arguments)
        test = definition(*arguments)
        walked = []
        day = rule.next_in()
        while day is not None:
            walked.append(day)
            day = rule.next_in(day + 1)
        self.assertEqual(walked, [day for day in range(0, DAYS) if test(day)])

    def test_falls_on_is_the_definition(self):
        for made in MADE:
            with self.subTest(f"{made[0].__name__}{made[2]}"):
                self.check_falls_on(made)

    def test_next_in_is_a_plain_walk(self):
        chance = random.Random(1)
        for made in MADE:
            with self.subTest(f"{made[0].__name__}{made[2]}"):
                self.check_next_in(made, chance)

    def test_next_in_again_and_again(self):
        for made in MADE:
            with self.subTest(f"{made[0].__name__}{made[2]}"):
                self.check_walk(made)

    def test_rules_at_random(self):
        chance = random.Random(2)
        for count in range(0, 60):
            made = made_at_random(chance)
            with self.subTest(f"{made[0].__name__}{made[2]}"):
                self.check_falls_on(made)
                self.check_next_in(made, chance)

    def test_left_out(self):
        for day in range(0, 3000):
            self.assertIs(Every(5).falls_on(day), Every(5, 0).falls_on(day))
            self.assertIs(Weekly(9).falls_on(day), Weekly(9, 0, 1).falls_on(day))
            self.assertIs(Monthly(-2).falls_on(day), Monthly(-2, 0, 1).falls_on(day))
            self.assertIs(Nth(2, 2).falls_on(day), Nth(2, 2, 0, 1).falls_on(day))
            self.assertIs(Yearly(7, 9).falls_on(day), Yearly(7, 9, 0, 1).falls_on(day))
            self.assertIs(Weekly(9, every=2).falls_on(day), Weekly(9, 0, 2).falls_on(day))
            self.assertIs(Monthly(3, first=70).falls_on(day), Monthly(3, 70, 1).falls_on(day))


class Examples(unittest.TestCase):
    """Days counted by hand."""

    def days(self, rule, many):
        found = []
        day = rule.next_in()
        while day is not None and len(found) < many:
            found.append(day)
            day = rule.next_in(day + 1)
        return found

    def test_rule_itself_falls_on_no_day(self):
        self.assertEqual([Rule().falls_on(day) for day in (0, 1, 146096, 146097, -1)], [False] * 5)
        self.assertEqual([Rule().next_in(), Rule().next_in(5), Rule().next_in(5, 500)], [None] * 3)

    def test_every(self):
        self.assertEqual(self.days(Every(3, 4), 4), [4, 7, 10, 13])
        self.assertEqual(self.days(Every(146096), 4), [0, 146096])

    def test_weekly_counts_weeks_from_monday(self):
        # Day 0 is a Saturday, so day 2 is of the next week already.
        self.assertEqual(self.days(Weekly(1 + 32, 0, 2), 4), [0, 9, 14, 23])
        self.assertEqual(self.days(Weekly(127, 1, 2), 4), [1, 9, 10, 11])

    def test_monthly_passes_over_months_without_the_date(self):
        self.assertEqual(self.days(Monthly(31), 4), [30, 90, 151, 212])
        self.assertEqual(self.days(Monthly(-31), 4), [0, 60, 121, 182])
        self.assertEqual(self.days(Monthly(-1), 4), [30, 59, 90, 120])
        self.assertEqual(self.days(Monthly(1, 1, 2), 2), [60, 121])

    def test_nth(self):
        self.assertEqual(self.days(Nth(1, 5), 3), [0, 35, 63])
        self.assertEqual(self.days(Nth(-1, 0), 3), [30, 58, 86])
        self.assertEqual(self.days(Nth(5, 1), 2), [59, 150])

    def test_yearly(self):
        self.assertEqual(self.days(Yearly(2, 29), 2), [59, 59 + 1461])
        self.assertEqual(self.days(Yearly(1, 1, 1, 3), 2), [day_of(2003), day_of(2006)])

    def test_days(self):
        self.assertEqual(self.days(Days((9, 3, 9, 0)), 9), [0, 3, 9])
        self.assertEqual(self.days(Days(()), 9), [])

    def test_days_handed_in_stay_as_they_are(self):
        days = (9, 3, 9, 0)
        Days(days).next_in()
        self.assertEqual(days, (9, 3, 9, 0))


class Wheres(unittest.TestCase):
    def setUp(self):
        self.asked = []

    def tell(self, day):
        self.asked.append(day)
        return day == 146090

    def test_is_asked_of_days_alone(self):
        rule = Where(self.tell)
        for number in NO_DAYS:
            self.assertIs(rule.falls_on(number), False)
        self.assertEqual(self.asked, [])
        for day, end in ((-HUGE, 20), (146091, HUGE), (-20, 0), (146097, HUGE), (5, 5), (HUGE, -HUGE), (9, -9)):
            self.assertIsNone(rule.next_in(day, end))
        self.assertEqual(self.asked, list(range(0, 20)) + list(range(146091, 146097)))

    def test_first_and_last_days_are_asked(self):
        rule = Where(self.tell)
        self.assertIs(rule.falls_on(0), False)
        self.assertIs(rule.falls_on(146096), False)
        self.assertIs(rule.falls_on(146090), True)
        self.assertEqual(self.asked, [0, 146096, 146090])
        self.assertEqual(rule.next_in(), 146090)


class Refusals(unittest.TestCase):
    def check_bounds(self, make, least, most):
        make(least)
        make(most)
        for number in (least - 1, least - 2, most + 1, most + 2, -10 ** 18, 10 ** 18, -HUGE, HUGE):
            check_refused(self, NoRule, make, number)

    def check_both_ways(self, make, most):
        for number in (1, most, -1, -most):
            make(number)
        for number in (0, most + 1, -most - 1, 10 ** 18, -10 ** 18, -HUGE, HUGE):
            check_refused(self, NoRule, make, number)

    def test_first(self):
        for make in (
            lambda first: Every(1, first), lambda first: Weekly(1, first), lambda first: Monthly(1, first),
            lambda first: Nth(1, 1, first), lambda first: Yearly(1, 1, first),
        ):
            self.check_bounds(make, 0, 146096)

    def test_every_left_in(self):
        for make in (
            lambda every: Weekly(1, 0, every), lambda every: Monthly(1, 0, every),
            lambda every: Nth(1, 1, 0, every), lambda every: Yearly(1, 1, 0, every),
        ):
            self.check_bounds(make, 1, 1000)

    def test_step(self):
        self.check_bounds(Every, 1, 146096)

    def test_mask(self):
        self.check_bounds(Weekly, 1, 127)

    def test_date_of_a_month(self):
        self.check_both_ways(Monthly, 31)

    def test_which(self):
        self.check_both_ways(lambda which: Nth(which, 0), 5)

    def test_weekday(self):
        self.check_bounds(lambda number: Nth(1, number), 0, 6)

    def test_month(self):
        self.check_bounds(lambda number: Yearly(number, 1), 1, 12)
        check_refused(self, NoRule, Yearly, 0, 0)
        check_refused(self, NoRule, Yearly, 13, 32)

    def test_date_of_a_year(self):
        for number, most in enumerate((31, 29, 31, 30, 31, 30, 31, 31, 30, 31, 30, 31), start=1):
            self.check_bounds(lambda date: Yearly(number, date), 1, most)
            # The most that the month ever has, whatever year first is of.
            self.check_bounds(lambda date: Yearly(number, date, 146096), 1, most)

    def test_days(self):
        self.check_bounds(lambda day: Days((day,)), 0, 146096)
        self.check_bounds(lambda day: Days((5, 0, day)), 0, 146096)
        self.check_bounds(lambda day: Days((day, 146096)), 0, 146096)
