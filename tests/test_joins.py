"""Points [2.1], [2.3], [2.4] and [2.5]: the rules made of others."""

import inspect
import random
import time
import unittest

from helper import HUGE, check_refused
from hourhouse import joins
from hourhouse.errors import NoRule
from hourhouse.joins import Both, But, Changed, Either, Shifted, Within
from hourhouse.listing import days_of
from hourhouse.rules import Days, Every, Monthly, Nth, Rule, Weekly, Where, Yearly
from test_rules import DAYS, NO_DAYS, first_of, made_at_random, pairs_asked

FIRST_DAYS = list(range(-4, 90))
LAST_DAYS = list(range(DAYS - 90, DAYS + 4))


# Each definition is the document's, said of one day; a test is asked of numbers that are no days, too.

def of_days(test):
    return lambda day: 0 <= day < DAYS and bool(test(day))


def by_either(one, other):
    return lambda day: one(day) or other(day)


def by_both(one, other):
    return lambda day: one(day) and other(day)


def by_but(one, other):
    return lambda day: one(day) and not other(day)


def by_within(test, begin, end):
    return lambda day: test(day) and begin <= day and day < end


def by_shifted(test, many):
    return lambda day: 0 <= day < DAYS and test(day - many)


def by_changed(test, left=None, more=None, moved=None):
    left = left or ()
    more = more or ()
    moved = moved or ()

    def tells(day):
        if day in more:
            return True
        for whence, goal in moved:
            if goal == day and test(whence) and whence not in left:
                return True
        return test(day) and day not in left and day not in [pair[0] for pair in moved]
    return tells


class Walks(unittest.TestCase):
    def check_days(self, rule, test, days):
        for day in days:
            if rule.falls_on(day) is not test(day):
                self.fail(f"falls_on({day}) isn't {test(day)}")

    def check_between(self, rule, test, begin, end):
        """Every next_in and days_of between two numbers that aren't far from one another."""
        falling = [day for day in range(begin, end) if test(day)]
        for day in range(begin, end + 1):
            self.assertEqual(rule.next_in(day, end), first_of(falling, day, end))
            self.assertEqual(rule.next_in(begin, day), first_of(falling, begin, day))
        self.assertEqual(days_of(rule, begin, end), falling)

    def check_whole(self, rule, test):
        """All days, and next_in all over."""
        falling = [day for day in range(0, DAYS) if test(day)]
        self.assertEqual([day for day in range(0, DAYS) if rule.falls_on(day)], falling)
        self.assertEqual(days_of(rule), falling)
        for day, end in pairs_asked(random.Random(3)):
            if rule.next_in(day, end) != first_of(falling, day, end):
                self.fail("next_in")
        self.assertEqual(rule.next_in(), falling[0] if falling else None)
        self.assertEqual(rule.next_in(70000), first_of(falling, 70000, DAYS))
        self.assertEqual(rule.next_in(end=5), first_of(falling, 0, 5))

    def check_near(self, rule, test):
        """Near the first and the last days, and beyond."""
        self.check_days(rule, test, FIRST_DAYS + LAST_DAYS + list(NO_DAYS))
        self.check_between(rule, test, -4, 60)
        self.check_between(rule, test, DAYS - 60, DAYS + 4)

    def falling_on(self, rule):
        return [day for day in FIRST_DAYS if rule.falls_on(day)]


class Interface(unittest.TestCase):
    def test_arguments_and_defaults(self):
        told = {
            "Either": "(one, other)", "Both": "(one, other)", "But": "(one, other)",
            "Within": "(rule, begin, end)", "Shifted": "(rule, many)",
            "Changed": "(rule, left=None, more=None, moved=None)",
        }
        for name, signature in told.items():
            kind = getattr(joins, name)
            self.assertEqual(str(inspect.signature(kind)), signature, name)
            self.assertEqual(str(inspect.signature(kind.falls_on)), "(self, day)")
            self.assertEqual(str(inspect.signature(kind.next_in)), "(self, day=0, end=146097)")
            self.assertTrue(issubclass(kind, Rule))

    def test_none_of_them_is_another(self):
        kinds = (Either, Both, But, Within, Shifted, Changed, Every, Weekly, Monthly, Nth, Yearly, Days, Where)
        for kind in kinds:
            self.assertEqual([other for other in kinds if issubclass(kind, other)], [kind])


class TwoRules(Walks):
    def test_by_hand(self):
        threes = Within(Every(3), 0, 20)
        fours = Within(Every(4), 0, 20)
        self.assertEqual(days_of(Either(threes, fours)), [0, 3, 4, 6, 8, 9, 12, 15, 16, 18])
        self.assertEqual(days_of(Both(threes, fours)), [0, 12])
        self.assertEqual(days_of(But(threes, fours)), [3, 6, 9, 15, 18])
        self.assertEqual(days_of(But(fours, threes)), [4, 8, 16])

    def test_definitions(self):
        pairs = (
            (Every(7), Every(3, 2), lambda day: day % 7 == 0, lambda day: day >= 2 and (day - 2) % 3 == 0),
            (Every(2), Every(2, 1), lambda day: day % 2 == 0, lambda day: day % 2 == 1),
            (Every(1), Rule(), lambda day: True, lambda day: False),
            (Rule(), Every(1), lambda day: False, lambda day: True),
            (Days((0, 146096)), Every(146096), lambda day: day in (0, 146096), lambda day: day in (0, 146096)),
            (Where(lambda day: day % 5000 == 7), Days((7, 8, 5007)),
             lambda day: day % 5000 == 7, lambda day: day in (7, 8, 5007)),
        )
        for one, other, test, tester in pairs:
            for kind, definition in ((Either, by_either), (Both, by_both), (But, by_but)):
                with self.subTest(kind.__name__):
                    made = definition(of_days(test), of_days(tester))
                    self.check_near(kind(one, other), made)
                    self.check_whole(kind(one, other), made)


class Withins(Walks):
    def test_bounds(self):
        for begin, end in (
            (0, DAYS), (-5, 5), (-HUGE, 3), (3, HUGE), (-HUGE, HUGE), (5, 5), (6, 5), (HUGE, -HUGE), (0, 0), (-9, 0),
            (-9, -3), (-3, -9), (146096, 146097), (146096, 146098), (146097, 146099), (146090, 146097), (10, 11),
            (0, 1), (1, 30), (10 ** 18, 2 * 10 ** 18), (146095, 146096), (-1, 1),
        ):
            rule = Within(Every(2), begin, end)
            self.check_near(rule, by_within(of_days(lambda day: day % 2 == 0), begin, end))

    def test_far(self):
        self.check_whole(Within(Every(9), 50, 146000), by_within(of_days(lambda day: day % 9 == 0), 50, 146000))
        self.assertEqual(days_of(Within(Every(1), 3, 6)), [3, 4, 5])


class Shifteds(Walks):
    def test_many(self):
        for many in (-1000, -999, -30, -1, 0, 1, 2, 17, 999, 1000):
            test = by_shifted(of_days(lambda day: day % 4 == 1), many)
            self.check_near(Shifted(Every(4, 1), many), test)
            self.check_whole(Shifted(Every(4, 1), many), test)

    def test_beyond_the_days(self):
        self.assertEqual(days_of(Shifted(Days((0, 1, 2, 146096)), -1)), [0, 1, 146095])
        self.assertEqual(days_of(Shifted(Days((0, 146095, 146096)), 1)), [1, 146096])
        self.assertEqual(days_of(Shifted(Days((999,)), -1000)), [])
        self.assertEqual(days_of(Shifted(Days((145097,)), 1000)), [])
        self.assertEqual(days_of(Shifted(Days((145096, 1000)), 1000)), [2000, 146096])
        for many in (-1, 1):
            self.assertIs(Shifted(Every(1), many).falls_on(-1), False)
            self.assertIs(Shifted(Every(1), many).falls_on(146097), False)
        # What was shifted beyond the days doesn't come back.
        self.assertEqual(days_of(Shifted(Shifted(Days((0, 1, 2, 3)), -2), 2)), [2, 3])
        self.assertEqual(days_of(Shifted(Shifted(Days((146096, 146095, 146094, 146000)), 2), -2)), [146000, 146094])

    def test_where_is_asked_of_days_alone(self):
        asked = []
        for many in (-1000, 1000):
            rule = Shifted(Where(lambda day: asked.append(day)), many)
            for day in list(range(-3, 3)) + list(range(146090, 146100)):
                rule.falls_on(day)
            rule.next_in(-HUGE, 50)
            rule.next_in(146090, HUGE)
        self.assertEqual([day for day in asked if day < 0 or day > 146096], [])

    def test_bounds(self):
        for many in (-1000, 1000):
            Shifted(Rule(), many)
        for many in (-1001, 1001, -1002, 1002, 10 ** 18, -10 ** 18, HUGE, -HUGE):
            check_refused(self, NoRule, Shifted, Rule(), many)


class Changeds(Walks):
    def check(self, rule, test, *arguments):
        self.check_near(Changed(rule, *arguments), by_changed(of_days(test), *arguments))

    def test_by_hand(self):
        rule = Within(Every(10), 0, 60)
        self.assertEqual(days_of(Changed(rule, (10, 11), (5, 20), ((30, 31), (33, 34), (40, 50)))), [0, 5, 20, 31, 50])

    def test_nothing_handed_in(self):
        plain = days_of(Every(10))
        for rule in (
            Changed(Every(10)), Changed(Every(10), None, None, None), Changed(Every(10), (), (), ()),
            Changed(Every(10), None, ()), Changed(Every(10), moved=None), Changed(Every(10), more=()),
        ):
            self.assertEqual(days_of(rule), plain)
            self.check_near(rule, of_days(lambda day: day % 10 == 0))
        self.assertEqual(self.falling_on(Changed(Every(30), moved=((30, 33),))), [0, 33, 60])
        self.assertEqual(self.falling_on(Changed(Every(30), more=(30, 33))), [0, 30, 33, 60])
        self.assertEqual(self.falling_on(Changed(Every(30), left=(30, 33))), [0, 60])

    def test_a_day_in_several_at_once(self):
        tens = Within(Every(10), 0, 50)
        told = (
            (((10,), (10,), ()), [0, 10, 20, 30, 40]),
            (((10,), (), ((10, 15),)), [0, 20, 30, 40]),
            (((15,), (), ((10, 15),)), [0, 15, 20, 30, 40]),
            (((), (10,), ((10, 15),)), [0, 10, 15, 20, 30, 40]),
            (((), (15,), ((11, 15),)), [0, 10, 15, 20, 30, 40]),
            (((10,), (10,), ((10, 15),)), [0, 10, 20, 30, 40]),
            (((15,), (15,), ((10, 15),)), [0, 15, 20, 30, 40]),
            (((), (), ((10, 20), (20, 30))), [0, 20, 30, 40]),
            (((20,), (), ((10, 20), (20, 25))), [0, 20, 30, 40]),
            (((), (), ((10, 20), (20, 10))), [0, 10, 20, 30, 40]),
            (((), (), ((11, 20),)), [0, 10, 20, 30, 40]),
            (((), (), ((11, 21), (21, 22))), [0, 10, 20, 30, 40]),
        )
        for arguments, days in told:
            self.assertEqual(days_of(Changed(tens, *arguments)), days, arguments)
            self.check(tens, lambda day: day % 10 == 0 and day < 50, *arguments)

    def test_pairs_alike(self):
        tens = Within(Every(10), 0, 50)
        told = (
            (((), (), ((10, 10),)), [0, 10, 20, 30, 40]),
            (((10,), (), ((10, 10),)), [0, 20, 30, 40]),
            (((), (), ((11, 11),)), [0, 10, 20, 30, 40]),
            (((), (11,), ((11, 11),)), [0, 10, 11, 20, 30, 40]),
            (((), (), ((10, 10), (10, 12))), [0, 10, 12, 20, 30, 40]),
            (((), (), ((10, 12), (10, 13), (10, 12))), [0, 12, 13, 20, 30, 40]),
            (((), (), ((10, 12), (20, 12), (21, 12))), [0, 12, 30, 40]),
            (((10,), (), ((10, 12), (20, 12))), [0, 12, 30, 40]),
            (((10, 20), (), ((10, 12), (20, 12))), [0, 30, 40]),
        )
        for arguments, days in told:
            self.assertEqual(days_of(Changed(tens, *arguments)), days, arguments)
            self.check(tens, lambda day: day % 10 == 0 and day < 50, *arguments)

    def test_the_first_and_the_last_day(self):
        ends = (0, 146096)
        self.check(Every(1), lambda day: True, ends, (), ())
        self.check(Rule(), lambda day: False, (), ends, ())
        self.check(Every(146096), lambda day: day in ends, (), (), ((0, 146095), (146096, 1)))
        self.check(Every(146096), lambda day: day in ends, (), (), ((0, 146096), (146096, 0)))

    def test_many_days(self):
        left = tuple(range(400, 0, -1))
        more = tuple(range(0, 1200, 3))
        moved = tuple([(day, 1999 - day) for day in range(800, 1200)])
        for arguments in ((left, more, moved), (left, None, moved), (None, more, None), (left, None, None)):
            rule = Changed(Every(2), *arguments)
            test = by_changed(of_days(lambda day: day % 2 == 0), *arguments)
            self.check_days(rule, test, range(-2, 2200))
            self.assertEqual(days_of(rule, 0, 2200), [day for day in range(0, 2200) if test(day)])

    def test_refused(self):
        for wrong in (-1, 146097, 10 ** 18, -10 ** 18, HUGE, -HUGE):
            for arguments in (
                ((wrong,),), ((0, wrong, 5),), (None, (wrong,)), ((), (7, wrong)),
                (None, None, ((wrong, 5),)), ((), (), ((5, wrong),)), ((), (), ((5, 6), (7, wrong))),
                ((), (), ((5, 6), (wrong, 7))), ((3,), (4,), ((wrong, wrong),)),
            ):
                check_refused(self, NoRule, Changed, Every(1), *arguments)
        for day in (0, 146096):
            Changed(Every(1), (day,), (day,), ((day, day),))

    def test_what_is_handed_in_stays(self):
        handed = ((5, 3, 5), (9, 1), ((2, 8), (4, 4)))
        rule = Changed(Every(1), *handed)
        days_of(rule)
        self.assertEqual(handed, ((5, 3, 5), (9, 1), ((2, 8), (4, 4))))


def random_days(chance, most):
    """Days that are often the same ones, near the first, near the last and far from both."""
    return tuple([
        chance.choice((chance.randrange(0, 30), chance.randrange(0, 30), DAYS - 1 - chance.randrange(0, 30),
                       chance.randrange(0, DAYS)))
        for count in range(0, chance.randrange(0, most + 1))
    ])


def random_simple(chance):
    """A pair of a simple rule and its definition."""
    if chance.randrange(0, 3) > 0:
        first = chance.choice((0, chance.randrange(0, 40)))
        step = chance.randrange(1, 9)
        return Every(step, first), of_days(lambda day: day >= first and (day - first) % step == 0)
    kind, definition, arguments = made_at_random(chance)
    return kind(*arguments), of_days(definition(*arguments))


def random_join(chance, one, other):
    """A pair of a joined rule and its definition, of such pairs."""
    left = random_days(chance, 5)
    more = random_days(chance, 4)
    moved = random_days(chance, 8)
    goals = random_days(chance, 8)
    many = chance.choice((0, 1, -1, 3, -4, chance.randrange(-1000, 1001)))
    begin = chance.choice((-7, 0, 3, chance.randrange(-50, DAYS)))
    end = chance.choice((25, DAYS, DAYS + 9, DAYS - 4, chance.randrange(0, DAYS)))
    pairs = tuple(zip(moved, goals))
    sort = chance.randrange(0, 7)
    if sort == 0:
        return Either(one[0], other[0]), by_either(one[1], other[1])
    if sort == 1:
        return Both(one[0], other[0]), by_both(one[1], other[1])
    if sort == 2:
        return But(one[0], other[0]), by_but(one[1], other[1])
    if sort == 3:
        return Within(one[0], begin, end), by_within(one[1], begin, end)
    if sort == 4:
        return Shifted(one[0], many), by_shifted(one[1], many)
    return Changed(one[0], left, more, pairs), by_changed(one[1], left, more, pairs)


def random_rule(chance, deep):
    """A pair of a rule with others within one another, and its definition."""
    if deep == 0:
        return random_simple(chance)
    return random_join(chance, random_rule(chance, deep - 1), random_rule(chance, chance.randrange(0, deep)))


class AtRandom(Walks):
    def test_near_the_ends(self):
        chance = random.Random(4)
        for count in range(0, 250):
            with self.subTest(count):
                rule, test = random_rule(chance, chance.randrange(1, 6))
                self.check_near(rule, test)

    def test_all_over(self):
        chance = random.Random(5)
        for count in range(0, 14):
            with self.subTest(count):
                rule, test = random_rule(chance, chance.randrange(1, 4))
                self.check_whole(rule, test)


class Depth(Walks):
    """Rules within one another as deep as told."""

    def deep_rule(self, chance):
        rule, test = Every(3), of_days(lambda day: day % 3 == 0)
        changed = chance.sample(range(0, 39), 12)
        for level in range(0, 39):
            simple, tester = random_simple(chance)
            if level in changed:
                left = random_days(chance, 3)
                more = random_days(chance, 6)
                pairs = tuple([(chance.randrange(0, 30), chance.randrange(0, 30)) for count in range(0, 2)])
                rule, test = Changed(rule, left, more, pairs), by_changed(test, left, more, pairs)
            elif level % 4 == 0:
                rule, test = Either(simple, rule), by_either(tester, test)
            elif level % 4 == 1:
                rule, test = But(rule, Within(simple, 5, 50)), by_but(test, by_within(tester, 5, 50))
            elif level % 4 == 2:
                rule, test = Shifted(rule, level % 3 - 1), by_shifted(test, level % 3 - 1)
            else:
                rule, test = Both(Every(1), rule), by_both(of_days(lambda day: True), test)
        return rule, test

    def test_forty_within_one_another(self):
        chance = random.Random(6)
        for count in range(0, 6):
            rule, test = self.deep_rule(chance)
            self.check_days(rule, test, list(range(-3, 45)) + list(range(DAYS - 20, DAYS + 3)))
            self.check_between(rule, test, -3, 40)

    def test_twelve_changed_ones_with_many_pairs(self):
        # Each day is moved to each other one, in each of the rules: asking whence, again and again, would never end.
        pairs = tuple([(day, goal) for day in range(0, 20) for goal in range(0, 20)])
        rule = Changed(Days((7,)), moved=pairs)
        for count in range(0, 11):
            rule = Changed(rule, (count,), None, pairs)
        begin = time.process_time()
        self.assertEqual(days_of(rule), list(range(0, 20)))
        self.assertEqual([rule.next_in(), rule.next_in(19), rule.next_in(20)], [0, 19, None])
        self.assertLess(time.process_time() - begin, 5)


class GoodTime(unittest.TestCase):
    """Asked far off, or of rules that never fall: in seconds, not in hours."""

    def setUp(self):
        self.begin = time.process_time()

    def tearDown(self):
        self.assertLess(time.process_time() - self.begin, 30)

    def test_rules_that_never_fall_within_dense_ones(self):
        never = Both(Every(2), Every(2, 1))
        where = Where(lambda day: False)
        lone = Monthly(30, 40, 12)
        for rule in (never, where, lone):
            self.assertEqual(len(days_of(Either(rule, Every(1)))), DAYS)
            self.assertIsNone(But(Either(rule, Every(1)), Every(1)).next_in())
            self.assertIsNone(Both(Either(Every(2), rule), Every(2, 1)).next_in())
            self.assertEqual(Either(Shifted(rule, 1), Days((146096,))).next_in(), 146096)

    def test_a_walk_by_next_in(self):
        rule = Either(Both(Every(2), Every(2, 1)), Changed(Every(1), (5,)))
        day = rule.next_in()
        many = 0
        while day is not None:
            many += 1
            day = rule.next_in(day + 1)
        self.assertEqual(many, DAYS - 1)

    def test_forty_deep_and_far(self):
        rule = Every(1)
        for level in range(0, 38):
            rule = But(rule, Days((level,))) if level % 2 else Either(Rule(), rule)
        rule = Both(rule, Days((146096,)))
        self.assertEqual(rule.next_in(), 146096)
        self.assertEqual(days_of(rule), [146096])
