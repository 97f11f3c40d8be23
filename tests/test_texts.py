"""Point [8.1]: the texts of moments."""

import inspect
import random
import unittest

from helper import HUGE, check_refused, date_of_day
from hourhouse import texts
from hourhouse.errors import NoText
from hourhouse.texts import moment_text, read_moment

LAST = 146096 * 1440 + 1439


class Moments(unittest.TestCase):
    def test_arguments(self):
        self.assertEqual(str(inspect.signature(texts.moment_text)), "(moment)")
        self.assertEqual(str(inspect.signature(texts.read_moment)), "(text)")

    def test_by_hand(self):
        for moment, text in (
            (0, "2000-01-01_00:00"), (1, "2000-01-01_00:01"), (59, "2000-01-01_00:59"), (60, "2000-01-01_01:00"),
            (1439, "2000-01-01_23:59"), (1440, "2000-01-02_00:00"), (9556 * 1440 + 570, "2026-03-01_09:30"),
            (LAST, "2399-12-31_23:59"), (LAST - 1439, "2399-12-31_00:00"),
        ):
            self.assertEqual(moment_text(moment), text)
            self.assertEqual(read_moment(text), moment)

    def test_both_ways(self):
        chance = random.Random(27)
        for moment in list(range(0, 1440)) + [chance.randrange(0, LAST + 1) for count in range(0, 3000)]:
            day, minute = divmod(moment, 1440)
            text = f"{date_of_day(day).isoformat()}_{minute // 60:02}:{minute % 60:02}"
            self.assertEqual(moment_text(moment), text)
            self.assertEqual(read_moment(text), moment)

    def test_moments_without_a_text(self):
        for moment in (-1, -2, -1440, LAST + 1, LAST + 2, HUGE, -HUGE):
            check_refused(self, NoText, moment_text, moment)

    def test_other_texts(self):
        for text in (
            "", "_", "2026-03-01", "2026-03-01_", "2026-03-01_09", "2026-03-01_09:", "2026-03-01_09:3",
            "2026-03-01_9:30", "2026-03-01_09:300", "2026-03-01_009:30", "2026-03-01 09:30", "2026-03-01T09:30",
            "2026-03-01__09:30", "2026-03-01_09.30", "2026-03-01_0930", "2026-03-01_24:00", "2026-03-01_23:60",
            "2026-03-01_99:99", "2026-02-29_09:30", "2026-3-01_09:30", "1999-12-31_23:59", "2400-01-01_00:00",
            "2026-03-01_-1:30", "2026-03-01_+9:30", "2026-03-01_ 9:30", "2026-03-01_09:30 ", " 2026-03-01_09:30",
            "2026-03-01_09:30\n", "\n2026-03-01_09:30", "2026-03-01_09:3\n", "2026-03-01_09: 3", "2026-03-01_aa:bb",
            "2026-03-01-09:30", "2026-00-01_09:30", "2026-01-00_09:30", "09:30", "_09:30", "2026-13-01_09:30",
            "2026-03-01_09:30:00", "02026-03-01_09:30", "26-03-01_09:30", "2026-03-01_0:930", "2026-03-0109:30_",
        ):
            check_refused(self, NoText, read_moment, text)

    def test_one_sign_off(self):
        text = "2026-03-01_09:30"
        for place in range(0, len(text) + 1):
            check_refused(self, NoText, read_moment, text[:place] + text[place + 1:] if place < len(text) else text[1:])
            for sign in "0 -_:~a\n":
                check_refused(self, NoText, read_moment, text[:place] + sign + text[place:])
                other = text[:place] + sign + text[place + 1:]
                try:
                    moment = read_moment(other)
                except NoText:
                    continue
                self.assertEqual(moment_text(moment), other)
