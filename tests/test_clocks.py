"""Points [3.1], [3.2], [3.3], [3.4] and [3.6]: places and what their clocks show."""

import inspect
import random
import unittest

from helper import HUGE, check_refused
from hourhouse import clocks
from hourhouse.clocks import Place, moment_of, moments_of, offset_at, shown
from hourhouse.errors import NoPlace

# Forward by an hour at moment 1000, back at 5000.
SUMMER = Place("town", 60, ((1000, 120), (5000, 60)))


def plain_offset(place, moment):
    """The offset as the document tells it, by a walk through all changes."""
    offset = place.offset
    for change, later in place.changes:
        if change <= moment:
            offset = later
    return offset


def plain_local(place, moment):
    return moment + plain_offset(place, moment)


def plain_moments(place, local):
    """The moments at which a local time is shown: none is farther off than the greatest offset."""
    return [moment for moment in range(local - 905, local + 906) if plain_local(place, moment) == local]


def plain_leap(place, local):
    for change, offset in place.changes:
        if plain_local(place, change - 1) < local < plain_local(place, change):
            return change
    return None


def random_place(chance):
    """A place whose clock is put forward and back, by much and little, often several times within few minutes."""
    moment = chance.choice((0, -5, -3000, chance.randrange(-10 ** 6, 10 ** 8)))
    changes = []
    for count in range(0, chance.randrange(0, 8)):
        moment += chance.choice((1, 1, 2, 3, 30, 60, 61, chance.randrange(1, 2000)))
        changes.append((moment, chance.choice((-900, 900, 0, 60, 120, 59, 61, 1, -1, chance.randrange(-900, 901)))))
    return Place("p", chance.choice((-900, 900, 0, 60, chance.randrange(-900, 901))), tuple(changes))


class Places(unittest.TestCase):
    def test_arguments_and_defaults(self):
        told = {
            "Place": "(name, offset, changes=None)", "offset_at": "(place, moment)", "shown": "(place, moment)",
            "moments_of": "(place, day, minute)", "moment_of": "(place, day, minute, later=False)",
        }
        for name, signature in told.items():
            self.assertEqual(str(inspect.signature(getattr(clocks, name))), signature)

    def test_values(self):
        place = Place("town", -30, ((5, 60), (6, -900)))
        self.assertEqual((place.name, place.offset, place.changes), ("town", -30, ((5, 60), (6, -900))))
        for bare in (Place("a", 900), Place("a", 900, None), Place("a", 900, ())):
            self.assertEqual((bare.name, bare.offset, bare.changes), ("a", 900, ()))
            self.assertIs(type(bare.changes), tuple)

    def test_names(self):
        for name in ("a", "a1234567", "z9"):
            self.assertEqual(Place(name, 0).name, name)
        for name in ("", "A", "1a", "a12345678", "a b", "a_b", "a\n", " a", "town/"):
            check_refused(self, NoPlace, Place, name, 0)

    def test_offsets(self):
        for offset in (-900, -1, 0, 900):
            self.assertEqual(Place("a", offset).offset, offset)
            Place("a", 0, ((5, offset),))
        for offset in (-901, 901, -10 ** 18, 10 ** 18, HUGE, -HUGE):
            check_refused(self, NoPlace, Place, "a", offset)
            check_refused(self, NoPlace, Place, "a", 0, ((5, offset),))
            check_refused(self, NoPlace, Place, "a", 0, ((5, offset), (6, 0)))
            check_refused(self, NoPlace, Place, "a", 0, ((5, 0), (6, 0), (7, offset)))

    def test_changes_rise(self):
        Place("a", 0, ((-HUGE, 1), (-5, 2), (-4, 2), (0, 3), (HUGE, 4)))
        for changes in (
            ((5, 1), (5, 2)), ((5, 1), (4, 2)), ((5, 1), (6, 2), (6, 3)), ((1, 1), (3, 1), (2, 1)),
            ((0, 1), (-1, 1)), ((HUGE, 1), (-HUGE, 1)), ((1, 0), (2, 0), (3, 0), (3, 0)), ((7, 5), (7, 5)),
        ):
            check_refused(self, NoPlace, Place, "a", 0, changes)

    def test_at_most_400_changes(self):
        rising = tuple([(moment, moment % 3) for moment in range(0, 402)])
        self.assertEqual(Place("a", 0, rising[:400]).changes, rising[:400])
        check_refused(self, NoPlace, Place, "a", 0, rising[:401])
        check_refused(self, NoPlace, Place, "a", 0, rising)


class Shown(unittest.TestCase):
    def test_offset_at(self):
        moments = (-HUGE, 0, 999, 1000, 1001, 4999, 5000, 5001, HUGE)
        self.assertEqual(
            [offset_at(SUMMER, moment) for moment in moments], [60, 60, 60, 120, 120, 120, 60, 60, 60])
        self.assertEqual([offset_at(Place("a", 7), moment) for moment in moments], [7] * 9)
        late = Place("a", 7, ((-HUGE, 8), (HUGE, 9)))
        self.assertEqual([offset_at(late, at) for at in (-HUGE - 1, -HUGE, 0, HUGE - 1, HUGE)], [7, 8, 8, 8, 9])

    def test_shown(self):
        self.assertEqual(shown(Place("a", 0), 0), (0, 0))
        self.assertEqual(shown(Place("a", 0), 1439), (0, 1439))
        self.assertEqual(shown(Place("a", 0), 1440), (1, 0))
        self.assertEqual(shown(Place("a", 0), -1), (-1, 1439))
        self.assertEqual(shown(Place("a", 0), -1440), (-1, 0))
        self.assertEqual(shown(Place("a", 0), -1441), (-2, 1439))
        self.assertEqual(shown(Place("a", -1), 0), (-1, 1439))
        self.assertEqual(shown(Place("a", 900), 146096 * 1440 + 1439), (146097, 899))
        self.assertEqual(shown(Place("a", 1), HUGE * 1440), (HUGE, 1))
        self.assertEqual(shown(Place("a", -1), -HUGE * 1440), (-HUGE - 1, 1439))
        self.assertEqual([shown(SUMMER, moment) for moment in (999, 1000)], [(0, 1059), (0, 1120)])
        self.assertEqual([shown(SUMMER, moment) for moment in (4999, 5000)], [(3, 799), (3, 740)])
        self.assertIs(type(shown(SUMMER, 5)), tuple)

    def test_at_random(self):
        chance = random.Random(9)
        for count in range(0, 200):
            place = random_place(chance)
            for change, offset in place.changes:
                for moment in range(change - 3, change + 4):
                    self.assertEqual(offset_at(place, moment), plain_offset(place, moment))
                    self.assertEqual(shown(place, moment), divmod(plain_local(place, moment), 1440))


class Moments(unittest.TestCase):
    def check(self, place, local):
        day, minute = divmod(local, 1440)
        expected = plain_moments(place, local)
        self.assertEqual(moments_of(place, day, minute), expected)
        if expected:
            self.assertEqual(moment_of(place, day, minute), expected[0])
            self.assertEqual(moment_of(place, day, minute, False), expected[0])
            self.assertEqual(moment_of(place, day, minute, True), expected[-1])
            self.assertEqual(moment_of(place, day, minute, later=True), expected[-1])
        else:
            leap = plain_leap(place, local)
            self.assertIsNotNone(leap)
            self.assertEqual(moment_of(place, day, minute), leap)
            self.assertEqual(moment_of(place, day, minute, True), leap)
        return len(expected)

    def test_by_hand(self):
        self.assertEqual(moments_of(SUMMER, 0, 1059), [999])
        self.assertEqual(moments_of(SUMMER, 0, 1060), [])
        self.assertEqual(moments_of(SUMMER, 0, 1119), [])
        self.assertEqual(moments_of(SUMMER, 0, 1120), [1000])
        self.assertEqual([moment_of(SUMMER, 0, minute) for minute in (1059, 1060, 1119, 1120)], [999, 1000, 1000, 1000])
        self.assertEqual(moments_of(SUMMER, 3, 739), [4939])
        self.assertEqual(moments_of(SUMMER, 3, 740), [4940, 5000])
        self.assertEqual(moments_of(SUMMER, 3, 799), [4999, 5059])
        self.assertEqual(moments_of(SUMMER, 3, 800), [5060])
        self.assertEqual([moment_of(SUMMER, 3, 740), moment_of(SUMMER, 3, 740, True)], [4940, 5000])
        self.assertEqual([moment_of(SUMMER, 0, 1100), moment_of(SUMMER, 0, 1100, True)], [1000, 1000])

    def test_a_change_to_the_same_offset(self):
        place = Place("a", 5, ((100, 5), (200, 5)))
        for local in range(90, 220):
            self.assertEqual(self.check(place, local), 1)

    def test_shown_at_several(self):
        # Put back by ten minutes each ten minutes: one local time again and again.
        place = Place("a", 0, tuple([(10 * many, -10 * many) for many in range(1, 90)]))
        self.assertEqual(moments_of(place, 0, 3), list(range(3, 900, 10)))
        self.assertEqual([moment_of(place, 0, 3), moment_of(place, 0, 3, True)], [3, 893])
        self.check(place, 10)
        self.check(place, 9)

    def test_leaps_over_one_local_time_twice(self):
        # Forward over minute 130, back below it, and forward over it again.
        place = Place("a", 0, ((100, 60), (101, 0), (102, 60)))
        self.assertEqual(moments_of(place, 0, 130), [])
        self.assertEqual([moment_of(place, 0, 130), moment_of(place, 0, 130, True)], [100, 100])
        # Leapt over at first, shown later on: the leap doesn't count.
        place = Place("a", 0, ((100, 60), (101, 0)))
        self.assertEqual(moments_of(place, 0, 130), [130])
        self.assertEqual(moment_of(place, 0, 130), 130)

    def test_the_greatest_offsets(self):
        up = Place("a", -900, ((0, 900),))
        down = Place("a", 900, ((0, -900),))
        for local in list(range(-905, -895)) + list(range(-5, 5)) + list(range(895, 905)):
            self.assertEqual(self.check(up, local), 0 if -900 <= local < 900 else 1)
            self.assertEqual(self.check(down, local), 2 if -900 <= local < 900 else 1)

    def test_days_below_nought_and_above_the_last(self):
        place = Place("a", 30, ((-10 ** 9, -30), (10 ** 9, 30)))
        for day in (-10 ** 6, -3, -1, 0, 146096, 146097, 146100, 10 ** 6):
            for minute in (0, 1, 719, 1439):
                self.check(place, day * 1440 + minute)
        far = Place("a", 30, ((-HUGE * 1440, -30), (HUGE * 1440, 30)))
        self.assertEqual(moments_of(far, -HUGE - 1, 0), [(-HUGE - 1) * 1440 - 30])
        self.assertEqual(moments_of(far, HUGE, 0), [])
        self.assertEqual(moment_of(far, HUGE, 0), HUGE * 1440)
        self.assertEqual(moments_of(far, -HUGE, 0), [-HUGE * 1440 - 30, -HUGE * 1440 + 30])

    def test_all_about_each_change(self):
        chance = random.Random(10)
        kinds = {}
        for count in range(0, 60):
            place = random_place(chance)
            asked = set()
            for change, offset in place.changes:
                for moment in range(change - 3, change + 4):
                    asked.add(plain_local(place, moment))
                asked.update(range(change - 2, change + 3))
                asked.update([change + near for near in (-901, -900, -899, 899, 900, 901)])
                asked.update([change + chance.randrange(-1000, 1001) for many in range(0, 4)])
            for local in asked:
                many = self.check(place, local)
                kinds[min(many, 3)] = True
        # None of the kinds is missing: shown at no moment, at one, at two, at more.
        self.assertEqual(sorted(kinds), [0, 1, 2, 3])

    def test_agrees_with_shown(self):
        chance = random.Random(11)
        for count in range(0, 300):
            place = random_place(chance)
            about = place.changes[0][0] if place.changes else 0
            for many in range(0, 20):
                moment = about + chance.randrange(-2000, 6000)
                pair = shown(place, moment)
                moments = moments_of(place, *pair)
                self.assertIn(moment, moments)
                self.assertEqual([shown(place, other) for other in moments], [pair] * len(moments))
                self.assertEqual(moments, sorted(set(moments)))

    def test_400_changes(self):
        changes = tuple([(many * 1440 * 90 + 60, 60 * (many % 2)) for many in range(1, 401)])
        place = Place("a", 0, changes)
        for change, offset in (changes[0], changes[1], changes[199], changes[398], changes[399]):
            for near in (-61, -60, -59, -1, 0, 1, 30, 59, 60, 61):
                self.check(place, change + near)

    def test_the_list_is_the_askers_own(self):
        told = moments_of(SUMMER, 3, 740)
        told.append(7)
        told[0] = 0
        self.assertEqual(moments_of(SUMMER, 3, 740), [4940, 5000])

    def test_what_is_handed_in_stays(self):
        changes = ((1000, 120), (5000, 60))
        place = Place("town", 60, changes)
        moment_of(place, 3, 740)
        self.assertEqual(changes, ((1000, 120), (5000, 60)))
        self.assertEqual(place.changes, changes)
