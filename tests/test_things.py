"""Points [5.1], [5.2] and [5.3]: things that come once and again, their spans and exceptions."""

import random
import unittest

from helper import HUGE, check_refused
from hourhouse.clocks import Place, moment_of
from hourhouse.errors import Full, NoDay, NoSpan, NoThing
from hourhouse.joins import Changed, Shifted
from hourhouse.listing import days_of
from hourhouse.rules import Days, Every, Rule
from hourhouse.things import Again, Once
from test_clocks import random_place
from test_joins import random_rule

HERE = Place("here", 0)


def plain_spans(thing, days, begin, end):
    """The spans of a thing that comes again, of some days, by the document's words."""
    spans = []
    for day in days:
        moment = moment_of(thing.place, day, thing.minute)
        if moment < end and moment + thing.length > begin:
            spans.append((moment, moment + thing.length))
    return spans


class Onces(unittest.TestCase):
    def test_spans(self):
        thing = Once(10, 20)
        told = {
            (0, 100): 1, (10, 20): 1, (19, 20): 1, (19, 21): 1, (10, 11): 1, (9, 11): 1, (14, 15): 1, (0, 10): 0,
            (20, 30): 0, (0, 9): 0, (15, 15): 0, (16, 14): 0, (20, 10): 0, (-HUGE, HUGE): 1, (HUGE, -HUGE): 0,
        }
        for asked, many in told.items():
            self.assertEqual(thing.spans_in(*asked), [(10, 20)] * many, asked)

    def test_refused(self):
        for begin, end in ((5, 5), (6, 5), (HUGE, -HUGE)):
            check_refused(self, NoSpan, Once, begin, end)
        self.assertEqual(Once(-HUGE, HUGE).spans_in(0, 1), [(-HUGE, HUGE)])


class Agains(unittest.TestCase):
    def test_by_hand(self):
        thing = Again(Every(7, 1), HERE, 600, 90)
        self.assertEqual(thing.spans_in(0, 20000), [(2040, 2130), (12120, 12210)])
        self.assertEqual(thing.spans_in(2129, 12121), [(2040, 2130), (12120, 12210)])
        self.assertEqual(thing.spans_in(2130, 12120), [])
        self.assertEqual(thing.spans_in(2130, 12121), [(12120, 12210)])
        self.assertEqual(thing.spans_in(2050, 2051), [(2040, 2130)])
        self.assertEqual(thing.spans_in(2051, 2051), [])
        self.assertEqual(thing.spans_in(2060, 2050), [])

    def test_clocks_put_forward_and_back(self):
        # Forward over the minutes 120 to 179 of day 1, back over the same of day 3.
        place = Place("town", 0, ((1560, 60), (4500, 0)))
        shown_at = {119: 1559, 120: 1560, 150: 1560, 179: 1560, 180: 1560, 181: 1561}
        for minute, moment in shown_at.items():
            self.assertEqual(Again(Days((1,)), place, minute, 5).spans_in(0, 9999), [(moment, moment + 5)])
        shown_at = {179: 4439, 180: 4440, 200: 4460, 239: 4499, 240: 4560}
        for minute, moment in shown_at.items():
            self.assertEqual(Again(Days((3,)), place, minute, 5).spans_in(0, 9999), [(moment, moment + 5)])

    def test_spans_that_meet_or_are_alike(self):
        thing = Again(Every(1), HERE, 0, 10080)
        self.assertEqual(len(thing.spans_in(20 * 1440, 20 * 1440 + 1)), 7)
        # The local midnights of days 1 and 2 are leapt over at one moment.
        place = Place("town", -900, ((2160, 900),))
        self.assertEqual(Again(Days((1, 2)), place, 0, 30).spans_in(-9999, 9999), [(2160, 2190), (2160, 2190)])

    def test_the_first_and_the_last_days(self):
        for offset in (-900, 0, 900):
            place = Place("a", offset)
            for minute in (0, 1439):
                thing = Again(Every(1), place, minute, 1)
                first = minute - offset
                last = 146096 * 1440 + minute - offset
                self.assertEqual(thing.spans_in(-HUGE, first + 1), [(first, first + 1)])
                self.assertEqual(thing.spans_in(-HUGE, first), [])
                self.assertEqual(thing.spans_in(last, HUGE), [(last, last + 1)])
                self.assertEqual(thing.spans_in(last + 1, HUGE), [])

    def test_as_a_plain_walk(self):
        chance = random.Random(16)
        for count in range(0, 150):
            rule, test = random_rule(chance, chance.randrange(0, 3))
            minute = chance.choice((0, 1439, chance.randrange(0, 1440)))
            length = chance.choice((1, 60, 1440, 10080, chance.randrange(1, 10081)))
            near = [day for day in range(0, 60) if test(day)]
            place = random_place(chance)
            if count % 2:
                changes = [(moment % 20000, offset) for moment, offset in place.changes]
                rising = sorted(dict(changes).items())
                place = Place("a", place.offset, tuple(rising))
            thing = Again(rule, place, minute, length)
            for many in range(0, 10):
                begin = chance.randrange(-3000, 40000)
                end = begin + chance.choice((0, 1, 1440, chance.randrange(0, 20000)))
                spans = plain_spans(thing, near, begin, end) if begin < end else []
                self.assertEqual(thing.spans_in(begin, end), spans)

    def test_at_the_edges_of_what_is_asked_for(self):
        for offset in (-900, -1, 0, 1, 900):
            for minute in (0, 1, 899, 900, 901, 1439):
                for length in (1, 2, 1440, 10080):
                    thing = Again(Days((30,)), Place("a", offset), minute, length)
                    begin = 30 * 1440 + minute - offset
                    end = begin + length
                    self.assertEqual(thing.spans_in(end - 1, end), [(begin, end)])
                    self.assertEqual(thing.spans_in(begin, begin + 1), [(begin, end)])
                    self.assertEqual(thing.spans_in(end, end + 9999), [])
                    self.assertEqual(thing.spans_in(begin - 9999, begin), [])

    def test_bounds(self):
        for minute in (0, 1439):
            Again(Rule(), HERE, minute, 1)
        for minute in (-1, 1440, HUGE, -HUGE):
            check_refused(self, NoThing, Again, Rule(), HERE, minute, 1)
        for length in (1, 10080):
            Again(Rule(), HERE, 0, length)
        for length in (0, -1, 10081, HUGE, -HUGE):
            check_refused(self, NoThing, Again, Rule(), HERE, 0, length)


class Exceptions(unittest.TestCase):
    def days(self, thing):
        return days_of(thing.rule, 0, 60)

    def test_each_sort(self):
        thing = Again(Every(10), HERE, 0, 1)
        self.assertEqual(self.days(thing.without_day(10)), [0, 20, 30, 40, 50])
        self.assertEqual(self.days(thing.with_day(11)), [0, 10, 11, 20, 30, 40, 50])
        self.assertEqual(self.days(thing.with_moved(10, 11)), [0, 11, 20, 30, 40, 50])
        self.assertEqual(self.days(thing.with_moved(11, 12)), [0, 10, 20, 30, 40, 50])
        self.assertEqual(self.days(thing.with_moved(10, 10)), [0, 10, 20, 30, 40, 50])
        self.assertEqual(self.days(thing), [0, 10, 20, 30, 40, 50])

    def test_the_last_one_said_counts_first(self):
        thing = Again(Every(10), HERE, 0, 1)
        self.assertEqual(self.days(thing.without_day(10).with_day(10)), [0, 10, 20, 30, 40, 50])
        self.assertEqual(self.days(thing.with_day(10).without_day(10)), [0, 20, 30, 40, 50])
        self.assertEqual(self.days(thing.with_day(11).with_moved(11, 12)), [0, 10, 12, 20, 30, 40, 50])
        self.assertEqual(self.days(thing.with_moved(10, 11).with_moved(11, 12)), [0, 12, 20, 30, 40, 50])
        self.assertEqual(self.days(thing.with_moved(11, 12).with_moved(10, 11)), [0, 11, 20, 30, 40, 50])
        self.assertEqual(self.days(thing.with_moved(10, 11).with_moved(10, 12)), [0, 11, 20, 30, 40, 50])

    def test_as_changed_rules(self):
        chance = random.Random(17)
        for count in range(0, 100):
            rule = Shifted(Every(3), chance.randrange(0, 3))
            thing = Again(rule, HERE, 0, 1)
            for many in range(0, 8):
                day = chance.randrange(0, 30)
                goal = chance.randrange(0, 30)
                sort = chance.randrange(0, 3)
                if sort == 0:
                    thing, rule = thing.without_day(day), Changed(rule, (day,), (), ())
                elif sort == 1:
                    thing, rule = thing.with_day(day), Changed(rule, (), (day,), ())
                else:
                    thing, rule = thing.with_moved(day, goal), Changed(rule, (), (), ((day, goal),))
                self.assertEqual(self.days(thing), days_of(rule, 0, 60))

    def test_at_most_eight(self):
        thing = Again(Every(10), HERE, 5, 7)
        for count in range(0, 8):
            thing = thing.without_day(10)
        self.assertEqual(self.days(thing), [0, 20, 30, 40, 50])
        self.assertEqual((thing.minute, thing.length, thing.place), (5, 7, HERE))
        check_refused(self, Full, thing.without_day, 10)
        check_refused(self, Full, thing.with_day, 10)
        check_refused(self, Full, thing.with_moved, 10, 20)
        # What is due first.
        check_refused(self, NoDay, thing.without_day, -1)
        check_refused(self, NoDay, thing.with_day, 146097)
        check_refused(self, NoDay, thing.with_moved, 10, -1)
        self.assertEqual(self.days(thing), [0, 20, 30, 40, 50])

    def test_no_day(self):
        thing = Again(Every(10), HERE, 5, 7)
        for wrong in (-1, 146097, HUGE, -HUGE):
            check_refused(self, NoDay, thing.without_day, wrong)
            check_refused(self, NoDay, thing.with_day, wrong)
            check_refused(self, NoDay, thing.with_moved, wrong, 5)
            check_refused(self, NoDay, thing.with_moved, 5, wrong)
        for day in (0, 146096):
            thing.without_day(day).with_day(day).with_moved(day, day)
