"""Days, dates, weekdays and months, and the texts of days."""

from hourhouse.errors import NoDay, NoText
from hourhouse.names import FIGURES, is_made_of

DAYS = 146097
MONTHS = 4800
FIRST_YEAR = 2000
LAST_YEAR = 2399
# Both are of years without a leap day: each month's length, and the days ahead of it.
MONTH_LENGTHS = (31, 28, 31, 30, 31, 30, 31, 31, 30, 31, 30, 31)
DAYS_AHEAD = (0, 31, 59, 90, 120, 151, 181, 212, 243, 273, 304, 334)
# Day 0 is a Saturday.
FIRST_WEEKDAY = 5


def is_day(number):
    """Whether a number is a day."""
    return 0 <= number < DAYS


def is_leap(year):
    """Whether a year is a leap year."""
    return year % 400 == 0 or (year % 4 == 0 and year % 100 != 0)


def month_days(year, month):
    """How many days a month has."""
    if month == 2 and is_leap(year):
        return 29
    return MONTH_LENGTHS[month - 1]


def is_date(year, month, date):
    """Whether three numbers are a date."""
    if year < FIRST_YEAR or year > LAST_YEAR or month < 1 or month > 12:
        return False
    return 1 <= date <= month_days(year, month)


def year_begin(year):
    """The first day of a year."""
    past = year - FIRST_YEAR
    # The first year itself is one that 4, 100 and 400 divide, so each share of leap years is rounded up.
    leaps = (past + 3) // 4 - (past + 99) // 100 + (past + 399) // 400
    return past * 365 + leaps


def month_begin(number):
    """The first day of the month of a number."""
    year = FIRST_YEAR + number // 12
    month = number % 12 + 1
    begin = year_begin(year) + DAYS_AHEAD[month - 1]
    if month > 2 and is_leap(year):
        return begin + 1
    return begin


def month_of(day):
    """The number of a day's month."""
    # Months never run so unevenly that the guess by their mean length is wrong by more than one.
    guess = day * MONTHS // DAYS
    if month_begin(guess) > day:
        return guess - 1
    if month_begin(guess + 1) <= day:
        return guess + 1
    return guess


def day_of(year, month=1, date=1):
    """The day of a date."""
    if not is_date(year, month, date):
        raise NoDay("these numbers are no date")
    return month_begin((year - FIRST_YEAR) * 12 + month - 1) + date - 1


def date_of(day):
    """The date of a day, a tuple (year, month, date)."""
    if not is_day(day):
        raise NoDay("this number is no day")
    number = month_of(day)
    return (FIRST_YEAR + number // 12, number % 12 + 1, day - month_begin(number) + 1)


def weekday(day):
    """The weekday of a day, from 0, Monday, to 6, Sunday."""
    return (day + FIRST_WEEKDAY) % 7


def day_text(day):
    """The text of a day."""
    parts = date_of(day)
    year = str(parts[0])
    month = str(parts[1]).zfill(2)
    date = str(parts[2]).zfill(2)
    return f"{year}-{month}-{date}"


def looks_like_day(text):
    """Whether a text has figures and `-` where a day's text has them."""
    if len(text) != 10 or text[4] != "-" or text[7] != "-":
        return False
    return is_made_of(text[:4] + text[5:7] + text[8:], FIGURES)


def read_day(text):
    """The day of a text."""
    if not looks_like_day(text):
        raise NoText("this text is not written as a day's text is")
    year = int(text[:4])
    month = int(text[5:7])
    date = int(text[8:])
    if not is_date(year, month, date):
        raise NoText("this text is of no date")
    return day_of(year, month, date)
