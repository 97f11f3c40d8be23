"""Points [1.1] to [1.4]: days, dates, weekdays, months, and days' texts."""

import calendar
import inspect
import unittest

from helper import HUGE, check_refused, date_of_day
from hourhouse import days
from hourhouse.days import date_of, day_of, day_text, is_leap, month_begin, month_days, month_of, read_day, weekday
from hourhouse.errors import NoDay, NoText

LENGTHS = (31, 28, 31, 30, 31, 30, 31, 31, 30, 31, 30, 31)
NO_DAYS = (-1, -2, 146097, 146098, -146096, 10 ** 18, -10 ** 18, HUGE, -HUGE)


class Interface(unittest.TestCase):
    def test_arguments_and_defaults(self):
        told = {
            "is_leap": "(year)", "month_days": "(year, month)", "day_of": "(year, month=1, date=1)",
            "date_of": "(day)", "weekday": "(day)", "month_of": "(day)", "month_begin": "(number)",
            "day_text": "(day)", "read_day": "(text)",
        }
        for name, signature in told.items():
            self.assertEqual(str(inspect.signature(getattr(days, name))), signature, name)


class Dates(unittest.TestCase):
    def test_every_day_both_ways(self):
        for day in range(0, 146097):
            date = date_of_day(day)
            parts = (date.year, date.month, date.day)
            self.assertEqual(date_of(day), parts)
            self.assertEqual(day_of(*parts), day)

    def test_every_month_has_its_days_and_no_more(self):
        day = 0
        for year in range(2000, 2400):
            for month in range(1, 13):
                length = LENGTHS[month - 1]
                if month == 2 and calendar.isleap(year):
                    length = 29
                self.assertEqual(month_days(year, month), length)
                self.assertEqual(day_of(year, month, 1), day)
                self.assertEqual(day_of(year, month, length), day + length - 1)
                self.assertEqual(date_of(day), (year, month, 1))
                self.assertEqual(date_of(day + length - 1), (year, month, length))
                for date in (0, length + 1):
                    self.assertRaises(NoDay, day_of, year, month, date)
                day += length
        self.assertEqual(day, 146097)

    def test_kinds(self):
        told = date_of(9556)
        self.assertIs(type(told), tuple)
        self.assertEqual(told, (2026, 3, 1))
        self.assertEqual([type(part) for part in told], [int, int, int])
        self.assertIs(type(day_of(2026, 3, 1)), int)

    def test_first_and_last(self):
        self.assertEqual(date_of(0), (2000, 1, 1))
        self.assertEqual(date_of(146096), (2399, 12, 31))
        self.assertEqual(day_of(2000, 1, 1), 0)
        self.assertEqual(day_of(2399, 12, 31), 146096)

    def test_left_out(self):
        self.assertEqual(day_of(2000), 0)
        self.assertEqual(day_of(2001), 366)
        self.assertEqual(day_of(2026, 3), day_of(2026, 3, 1))
        self.assertEqual(day_of(2026, date=9), day_of(2026, 1, 9))
        self.assertEqual(day_of(date=2, month=4, year=2100), day_of(2100, 4, 2))

    def test_leap_years(self):
        for year in range(2000, 2400):
            self.assertIs(is_leap(year), calendar.isleap(year), year)
        for year in (2000, 2004, 2096, 2104, 2396):
            self.assertIs(is_leap(year), True)
        for year in (2001, 2002, 2100, 2200, 2300, 2399):
            self.assertIs(is_leap(year), False)

    def test_end_of_february(self):
        for year in (2000, 2004, 2024, 2396):
            self.assertEqual(day_of(year, 2, 29) + 1, day_of(year, 3, 1))
            self.assertEqual(day_of(year, 2, 28) + 1, day_of(year, 2, 29))
            check_refused(self, NoDay, day_of, year, 2, 30)
        for year in (2001, 2023, 2100, 2200, 2300, 2399):
            self.assertEqual(day_of(year, 2, 28) + 1, day_of(year, 3, 1))
            check_refused(self, NoDay, day_of, year, 2, 29)

    def test_no_dates(self):
        wrong = [
            (1999, 12, 31), (2400, 1, 1), (0, 1, 1), (-2000, 1, 1), (HUGE, 1, 1), (-HUGE, 1, 1),
            (2000, 0, 1), (2000, 13, 1), (2000, -1, 1), (2000, -11, 1), (2000, HUGE, 1), (2000, -HUGE, 1),
            (2000, 1, 0), (2000, 1, 32), (2000, 1, -1), (2000, 1, HUGE), (2000, 1, -HUGE), (2000, 4, 31),
            (2399, 12, 32), (2400,), (1999,), (2026, 13), (2026, 0),
        ]
        for parts in wrong:
            check_refused(self, NoDay, day_of, *parts)

    def test_no_days(self):
        for number in NO_DAYS:
            check_refused(self, NoDay, date_of, number)


class Weekdays(unittest.TestCase):
    def test_every_day(self):
        for day in range(0, 146097):
            self.assertEqual(weekday(day), date_of_day(day).weekday())

    def test_first_week(self):
        self.assertEqual([weekday(day) for day in range(0, 9)], [5, 6, 0, 1, 2, 3, 4, 5, 6])


class Months(unittest.TestCase):
    def test_month_of_every_day(self):
        for day in range(0, 146097):
            date = date_of_day(day)
            self.assertEqual(month_of(day), (date.year - 2000) * 12 + date.month - 1)

    def test_first_day_of_every_month(self):
        for number in range(0, 4800):
            self.assertEqual(month_begin(number), day_of(2000 + number // 12, number % 12 + 1, 1))
            self.assertEqual(month_of(month_begin(number)), number)
            if number > 0:
                self.assertEqual(month_of(month_begin(number) - 1), number - 1)

    def test_first_and_last(self):
        self.assertEqual((month_of(0), month_of(146096)), (0, 4799))
        self.assertEqual((month_begin(0), month_begin(4799)), (0, 146066))


class Texts(unittest.TestCase):
    def test_every_day_both_ways(self):
        for day in range(0, 146097):
            text = date_of_day(day).isoformat()
            self.assertEqual(day_text(day), text)
            self.assertEqual(read_day(text), day)

    def test_some(self):
        self.assertEqual(day_text(day_of(2026, 3, 1)), "2026-03-01")
        self.assertEqual((day_text(0), day_text(146096)), ("2000-01-01", "2399-12-31"))

    def test_no_days(self):
        for number in NO_DAYS:
            check_refused(self, NoDay, day_text, number)

    def test_no_texts(self):
        wrong = [
            "", " ", "2026", "2026-03", "2026-03-", "2026-3-1", "2026-03-1", "2026-3-01", "26-03-01", "02026-03-01",
            "2026-03-011", "2026-03-01 ", " 2026-03-01", "2026-03-01\n", "\n2026-03-01", "2026-03-0\n", "2026-03-0 ",
            "2026 03 01", "2026/03/01", "20260301", "2026-0301", "202603-01", "2026_03_01", "2026-03_01", "2026_03-01",
            "+026-03-01", "-026-03-01", "2026-+3-01", "2026--3-01", "2026-03--1", "2026- 3-01", "2026-03- 1",
            "2_26-03-01", "2026-0a-01", "abcd-ef-gh", "2026-03-01-", "2026-03-01_09:30", "----------", "9" * 10,
            "9" * 5000, "9" * 5000 + "-01-01",
        ]
        for text in wrong:
            with self.subTest(text[:20]):
                check_refused(self, NoText, read_day, text)

    def test_texts_of_no_dates(self):
        wrong = [
            "1999-12-31", "2400-01-01", "0000-01-01", "9999-12-31", "2026-00-01", "2026-13-01", "2026-99-01",
            "2026-03-00", "2026-03-32", "2026-04-31", "2026-02-29", "2100-02-29", "2000-02-30", "2399-12-32",
        ]
        for text in wrong:
            check_refused(self, NoText, read_day, text)

    def test_each_sign_in_each_place(self):
        texts = {date_of_day(day).isoformat(): day for day in range(0, 146097)}
        for good in ("2026-03-01", "2399-12-31"):
            for place in range(0, 10):
                for number in [9, 10] + list(range(32, 127)):
                    text = good[:place] + chr(number) + good[place + 1:]
                    if text in texts:
                        self.assertEqual(read_day(text), texts[text])
                    else:
                        check_refused(self, NoText, read_day, text)
