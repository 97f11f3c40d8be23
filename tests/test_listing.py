"""Points [2.1] and [2.5]: the days of a rule, listed and counted."""

import inspect
import random
import unittest

from helper import HUGE
from hourhouse import listing
from hourhouse.joins import Both, Changed, Either, Shifted, Within
from hourhouse.listing import count_of, days_of, nth_of
from hourhouse.rules import Days, Every, Monthly, Rule, Weekly, Where, Yearly
from test_joins import random_rule
from test_rules import DAYS, MADE


class OwnRule(Rule):
    """A rule of the asker's own, with the two methods alone that a rule has."""

    def falls_on(self, day):
        return day in (3, 77, 146096)

    def next_in(self, day=0, end=146097):
        found = [other for other in (3, 77, 146096) if day <= other < end]
        return found[0] if found else None


class Listing(unittest.TestCase):
    def check(self, rule, test, begin, end):
        falling = [day for day in range(max(begin, 0), min(end, DAYS)) if test(day)]
        self.assertEqual(days_of(rule, begin, end), falling)
        self.assertEqual(count_of(rule, begin, end), len(falling))
        places = range(0, len(falling) + 2) if len(falling) < 30 else (0, 1, 28, len(falling) - 1, len(falling))
        for many in places:
            expected = falling[many] if many < len(falling) else None
            self.assertEqual(nth_of(rule, many, begin, end), expected)
        self.assertIsNone(nth_of(rule, len(falling) + 10 ** 18, begin, end))

    def test_arguments_and_defaults(self):
        self.assertEqual(str(inspect.signature(listing.days_of)), "(rule, begin=0, end=146097)")
        self.assertEqual(str(inspect.signature(listing.count_of)), "(rule, begin=0, end=146097)")
        self.assertEqual(str(inspect.signature(listing.nth_of)), "(rule, many, begin=0, end=146097)")

    def test_by_hand(self):
        self.assertEqual(days_of(Every(5, 3), 3, 14), [3, 8, 13])
        self.assertEqual(days_of(Every(5, 3), 4, 13), [8])
        self.assertEqual(count_of(Every(5, 3), 3, 14), 3)
        self.assertEqual([nth_of(Every(5, 3), many, 3, 14) for many in (0, 1, 2, 3)], [3, 8, 13, None])
        self.assertEqual([nth_of(Every(5, 3), many, 4) for many in (0, 1, 2)], [8, 13, 18])

    def test_left_out(self):
        self.assertEqual(count_of(Every(1)), 146097)
        self.assertEqual(days_of(Every(146096)), [0, 146096])
        self.assertEqual(days_of(Every(50000), 1), [50000, 100000])
        self.assertEqual(days_of(Every(50000), end=100000), [0, 50000])
        self.assertEqual(count_of(Every(50000), 1), 2)
        self.assertEqual(count_of(Every(50000), end=100000), 2)
        self.assertEqual(nth_of(Every(50000), 1), 50000)
        self.assertEqual(nth_of(Every(50000), 1, 1), 100000)
        self.assertIsNone(nth_of(Every(50000), 2, end=100000))
        self.assertEqual(nth_of(Every(50000), 2, end=100001), 100000)

    def test_of_none(self):
        for rule in (Rule(), Days(()), Where(lambda day: False), Both(Every(2), Every(2, 1))):
            self.assertEqual(days_of(rule), [])
            self.assertEqual(count_of(rule), 0)
            self.assertIsNone(nth_of(rule, 0))
            self.assertIsNone(nth_of(rule, 5))

    def test_simple_rules(self):
        for kind, definition, arguments in MADE:
            with self.subTest(f"{kind.__name__}{arguments}"):
                test = definition(*arguments)
                for begin, end in ((0, DAYS), (-9, 40), (146000, HUGE), (59, 60), (60, 59), (5, 5)):
                    self.check(kind(*arguments), test, begin, end)

    def test_begin_and_end_beyond_the_days(self):
        for rule in (Every(1), Shifted(Every(1), 0), Within(Every(1), -HUGE, HUGE), Changed(Every(1))):
            for begin, end in (
                (-3, 3), (146094, 146100), (-HUGE, 2), (146095, HUGE), (-5, 0), (-5, -2), (146097, 146099), (7, 7),
                (8, 7), (HUGE, -HUGE), (0, 1), (146096, 146097), (-HUGE, -HUGE + 5), (HUGE, HUGE + 5),
            ):
                self.check(rule, lambda day: True, begin, end)
            self.assertEqual(count_of(rule, -HUGE, HUGE), 146097)
            self.assertEqual(nth_of(rule, 146096, -HUGE, HUGE), 146096)
            self.assertIsNone(nth_of(rule, 146097, -HUGE, HUGE))

    def test_far_off(self):
        self.assertEqual(count_of(Weekly(127)), 146097)
        self.assertEqual(count_of(Monthly(-1)), 4800)
        self.assertEqual(count_of(Yearly(2, 29)), 97)
        self.assertEqual(nth_of(Either(Weekly(1), Weekly(2)), 41741), 146093)
        self.assertEqual(nth_of(Changed(Every(1), (0,), None, ((5, 6),)), 146094), 146096)

    def test_joined_rules_at_random(self):
        chance = random.Random(7)
        for count in range(0, 60):
            rule, test = random_rule(chance, chance.randrange(1, 5))
            with self.subTest(count):
                self.check(rule, test, chance.randrange(-5, 10), chance.randrange(5, 90))
                self.check(rule, test, DAYS - chance.randrange(1, 90), DAYS + chance.randrange(-5, 5))
                begin = chance.randrange(0, DAYS)
                self.check(rule, test, begin, begin + 1000)

    def test_a_rule_of_ones_own(self):
        self.assertEqual(days_of(OwnRule()), [3, 77, 146096])
        self.assertEqual(days_of(Either(OwnRule(), Days((4,))), 0, 100), [3, 4, 77])
        self.assertEqual(days_of(Both(OwnRule(), Every(77))), [77])
        self.assertEqual(count_of(OwnRule(), 4), 2)
        self.assertEqual(nth_of(OwnRule(), 2), 146096)

    def test_the_list_is_the_askers_own(self):
        for rule in (
            Every(10), Days((1, 2, 3)), Rule(), Weekly(3), Changed(Every(10)), Changed(Rule(), None, (4, 5)),
            Within(Days((1, 2, 3)), 0, 9), Either(Days((1, 2)), Rule()), Either(Rule(), Days((1, 2))),
        ):
            told = days_of(rule, 0, 100)
            kept = list(told)
            told.append(99)
            told.reverse()
            self.assertEqual(days_of(rule, 0, 100), kept)
