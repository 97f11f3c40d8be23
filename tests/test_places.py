"""Points [3.5] and [3.6]: places by rules."""

import inspect
import random
import unittest

from helper import HUGE, check_refused
from hourhouse import places
from hourhouse.clocks import Place, shown
from hourhouse.days import day_of
from hourhouse.errors import NoPlace
from hourhouse.joins import Changed
from hourhouse.places import place_by
from hourhouse.rules import Days, Every, Nth, Rule, Weekly, Where
from test_joins import random_rule


class PlaceBy(unittest.TestCase):
    def test_arguments_and_defaults(self):
        self.assertEqual(
            str(inspect.signature(places.place_by)),
            "(name, offset, forward, back, begin, end, minute=60, shift=60)")

    def test_by_hand(self):
        place = place_by("town", 60, Days((10, 30)), Days((20, 40)), 0, 100)
        self.assertIsInstance(place, Place)
        self.assertEqual((place.name, place.offset), ("town", 60))
        self.assertEqual(place.changes, ((14460, 120), (28860, 60), (43260, 120), (57660, 60)))
        self.assertIs(type(place.changes), tuple)
        place = place_by("town", -90, Days((10,)), Days((20,)), 0, 100, 0, 1)
        self.assertEqual(place.changes, ((14400, -89), (28800, -90)))
        place = place_by("town", 0, Days((10,)), Days((20,)), 0, 100, 1439, 120)
        self.assertEqual(place.changes, ((15839, 120), (30239, 0)))
        self.assertEqual(place_by("a", 0, Days((1,)), Rule(), 0, 9, shift=30).changes, ((1500, 30),))
        self.assertEqual(place_by("a", 0, Days((1,)), Rule(), 0, 9, minute=30).changes, ((1470, 60),))

    def test_summer_time(self):
        forward = Nth(-1, 6, day_of(2000, 3), 12)
        back = Nth(-1, 6, day_of(2000, 10), 12)
        place = place_by("rome", 60, forward, back, 0, day_of(2100))
        self.assertEqual(len(place.changes), 200)
        begin = day_of(2026, 3, 29) * 1440
        self.assertEqual(shown(place, begin + 59), (day_of(2026, 3, 29), 119))
        self.assertEqual(shown(place, begin + 60), (day_of(2026, 3, 29), 180))
        end = day_of(2026, 10, 25) * 1440
        self.assertEqual(shown(place, end + 59), (day_of(2026, 10, 25), 179))
        self.assertEqual(shown(place, end + 60), (day_of(2026, 10, 25), 120))

    def test_a_day_of_both_counts_for_forward(self):
        place = place_by("a", 0, Days((10, 11)), Days((11, 12)), 0, 100)
        self.assertEqual(place.changes, ((14460, 60), (15900, 60), (17340, 0)))
        place = place_by("a", 0, Every(5), Every(5), 0, 11)
        self.assertEqual(place.changes, ((60, 60), (7260, 60), (14460, 60)))

    def test_one_sort_alone_and_again(self):
        self.assertEqual(place_by("a", 7, Rule(), Rule(), 0, 100).changes, ())
        self.assertEqual(place_by("a", 7, Rule(), Days((1, 2)), 0, 100).changes, ((1500, 7), (2940, 7)))
        self.assertEqual(place_by("a", 7, Days((1, 2)), Rule(), 0, 100).changes, ((1500, 67), (2940, 67)))

    def test_begin_and_end(self):
        forward = Days((0, 5, 146096))
        back = Days((6, 146095))
        for begin, end in (
            (0, 146097), (-HUGE, HUGE), (-1, 146098), (5, 7), (5, 6), (6, 6), (7, 5), (1, 5), (146096, 146097),
            (146096, HUGE), (146097, HUGE), (-5, 0), (-5, 1), (HUGE, -HUGE), (6, 146096),
        ):
            expected = [(day * 1440 + 60, 60) for day in (0, 5, 146096) if begin <= day < end]
            expected += [(day * 1440 + 60, 0) for day in (6, 146095) if begin <= day < end]
            self.assertEqual(place_by("a", 0, forward, back, begin, end).changes, tuple(sorted(expected)))

    def test_at_random(self):
        chance = random.Random(12)
        made = 0
        while made < 60:
            forward, falls = random_rule(chance, chance.randrange(0, 3))
            back, falls_back = random_rule(chance, chance.randrange(0, 3))
            begin = chance.choice((-5, 0, 30, 146000, chance.randrange(0, 146097)))
            end = begin + chance.randrange(0, 300)
            offset = chance.randrange(-900, 781)
            minute = chance.randrange(0, 1440)
            shift = chance.randrange(1, 121)
            expected = []
            for day in range(max(begin, 0), min(end, 146097)):
                if falls(day):
                    expected.append((day * 1440 + minute, offset + shift))
                elif falls_back(day):
                    expected.append((day * 1440 + minute, offset))
            place = place_by("a", offset, forward, back, begin, end, minute, shift)
            self.assertEqual(place.changes, tuple(expected))
            made += 1

    def test_what_is_handed_in_stays(self):
        forward = Changed(Every(9), (9,), (4,))
        place_by("a", 0, forward, Weekly(1), 0, 100)
        self.assertEqual((forward.falls_on(9), forward.falls_on(4), forward.falls_on(18)), (False, True, True))


class Refusals(unittest.TestCase):
    def test_name(self):
        for name in ("", "A", "1a", "a12345678", "a b", "a_"):
            check_refused(self, NoPlace, place_by, name, 0, Rule(), Rule(), 0, 9)

    def test_offset(self):
        for offset in (-900, 900):
            self.assertEqual(place_by("a", offset, Rule(), Rule(), 0, 9).offset, offset)
        for offset in (-901, 901, HUGE, -HUGE):
            check_refused(self, NoPlace, place_by, "a", offset, Rule(), Rule(), 0, 9)
        # Each change would be within the bounds, the place's own offset isn't.
        check_refused(self, NoPlace, place_by, "a", -930, Every(1), Rule(), 0, 9)

    def test_minute(self):
        for minute in (0, 1, 1438, 1439):
            self.assertEqual(place_by("a", 0, Days((1,)), Rule(), 0, 9, minute).changes, ((1440 + minute, 60),))
        for minute in (-1, 1440, -HUGE, HUGE):
            check_refused(self, NoPlace, place_by, "a", 0, Days((1,)), Rule(), 0, 9, minute)
            check_refused(self, NoPlace, place_by, "a", 0, Rule(), Rule(), 0, 9, minute)
            check_refused(self, NoPlace, place_by, "a", 0, Rule(), Days((1,)), 9, 0, minute)

    def test_shift(self):
        for shift in (1, 2, 119, 120):
            self.assertEqual(place_by("a", 0, Days((1,)), Rule(), 0, 9, 60, shift).changes, ((1500, shift),))
        for shift in (0, -1, 121, HUGE, -HUGE):
            check_refused(self, NoPlace, place_by, "a", 0, Days((1,)), Rule(), 0, 9, 60, shift)
            check_refused(self, NoPlace, place_by, "a", 0, Rule(), Rule(), 0, 9, 60, shift)
            check_refused(self, NoPlace, place_by, "a", 0, Rule(), Days((1,)), 0, 9, 60, shift)

    def test_offset_and_shift_together(self):
        for offset, shift in ((900, 1), (841, 60), (781, 120), (900, 120)):
            check_refused(self, NoPlace, place_by, "a", offset, Days((1,)), Rule(), 0, 9, 60, shift)
            check_refused(self, NoPlace, place_by, "a", offset, Days((1,)), Days((1,)), 0, 9, 60, shift)
            # No change comes to have it.
            self.assertEqual(place_by("a", offset, Rule(), Rule(), 0, 9, 60, shift).changes, ())
            self.assertEqual(place_by("a", offset, Days((9,)), Rule(), 0, 9, 60, shift).changes, ())
            self.assertEqual(place_by("a", offset, Rule(), Days((1,)), 0, 9, 60, shift).changes, ((1500, offset),))
        for offset, shift in ((899, 1), (840, 60), (780, 120)):
            self.assertEqual(place_by("a", offset, Days((1,)), Rule(), 0, 9, 60, shift).changes, ((1500, 900),))

    def test_too_many_changes(self):
        self.assertEqual(len(place_by("a", 0, Every(1), Rule(), 0, 400).changes), 400)
        self.assertEqual(len(place_by("a", 0, Every(1), Every(1), 0, 400).changes), 400)
        self.assertEqual(len(place_by("a", 0, Every(2), Every(2, 1), 5, 405).changes), 400)
        for arguments in (
            (Every(1), Rule(), 0, 401), (Rule(), Every(1), 0, 401), (Every(2), Every(2, 1), 0, 401),
            (Every(1), Every(1), 0, 401), (Every(1), Rule(), 0, 146097), (Where(lambda day: True), Rule(), -9, HUGE),
        ):
            check_refused(self, NoPlace, place_by, "a", 0, *arguments)
