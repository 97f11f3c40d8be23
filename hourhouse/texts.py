"""The texts of moments."""

from hourhouse.clocks import DAY_MINUTES
from hourhouse.days import day_text, is_day, read_day
from hourhouse.errors import NoText
from hourhouse.names import FIGURES, is_made_of


def clock_text(minute):
    """The hours and minutes of a minute of a day."""
    hours = str(minute // 60).zfill(2)
    minutes = str(minute % 60).zfill(2)
    return f"{hours}:{minutes}"


def moment_text(moment):
    """The text of a moment."""
    day = moment // DAY_MINUTES
    if not is_day(day):
        raise NoText("the moment is of no day")
    return day_text(day) + "_" + clock_text(moment % DAY_MINUTES)


def read_clock(text):
    """The minute of a day of hours and minutes."""
    if len(text) != 5 or text[2] != ":" or not is_made_of(text[:2] + text[3:], FIGURES):
        raise NoText("this text is not written as hours and minutes are")
    hours = int(text[:2])
    minutes = int(text[3:])
    if hours >= 24 or minutes >= 60:
        raise NoText("there are no such hours and minutes")
    return hours * 60 + minutes


def read_moment(text):
    """The moment of a text."""
    if text[10:11] != "_":
        raise NoText("this text is not written as a moment's text is")
    return read_day(text[:10]) * DAY_MINUTES + read_clock(text[11:])
