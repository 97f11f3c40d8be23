"""The desk: sheets of rows, and the answers to them."""

from hourhouse.clocks import shown
from hourhouse.days import day_text
from hourhouse.errors import Busy, Closed, Full, HouseError, Known, NoDay, NoHand, NoLetter, NoMeeting, NoPlace
from hourhouse.errors import NoRule, NoSpan, NoText, NoThing
from hourhouse.house import House
from hourhouse.listing import days_of
from hourhouse.sheets import read_sheet
from hourhouse.spans import meets
from hourhouse.texts import clock_text, moment_text


class Desk:
    """What the desk answers from: the places of a sheet, and its house."""

    def __init__(self, sheet):
        self.places = sheet.places
        self.house = House(tuple(sorted(sheet.books)), sheet.books)


def refusal_word(error):
    """The name of a refusal's class in small letters."""
    if isinstance(error, NoDay):
        return "noday"
    if isinstance(error, NoText):
        return "notext"
    if isinstance(error, NoRule):
        return "norule"
    if isinstance(error, NoPlace):
        return "noplace"
    if isinstance(error, NoSpan):
        return "nospan"
    if isinstance(error, NoThing):
        return "nothing"
    if isinstance(error, Known):
        return "known"
    if isinstance(error, Full):
        return "full"
    if isinstance(error, NoLetter):
        return "noletter"
    if isinstance(error, NoHand):
        return "nohand"
    if isinstance(error, NoMeeting):
        return "nomeeting"
    if isinstance(error, Closed):
        return "closed"
    if isinstance(error, Busy):
        return "busy"
    # The one that is left.
    return "noword"


def listed(texts):
    """Texts as they are told in one answer."""
    return "; ".join(texts) if texts else "none"


def span_text(span):
    """The texts of the two moments of a span."""
    return moment_text(span[0]) + " " + moment_text(span[1])


def held_text(held):
    """The text of a meeting that holds a hand."""
    number = str(held[3])
    return span_text(held) + " " + held[2] + "/" + number


def named(word, names):
    """A word and the names behind it."""
    return " ".join([word] + list(names))


def meeting_text(told):
    """The text of what is told of a meeting."""
    asker = told[0]
    number = told[1]
    turn = told[2]
    state = told[3]
    head = f"{asker}/{number} {turn} {state}"
    if state == "off":
        return head
    words = ("yes", "no", "silent", "come", "late")
    return " ".join([head] + [named(word, names) for word, names in zip(words, told[6:])])


def tell_ask(desk, parts):
    return str(desk.house.ask(parts[0], parts[1], parts[2], parts[3]))


def tell_move(desk, parts):
    desk.house.move(parts[0], parts[1], parts[2], parts[3])
    return "done"


def tell_off(desk, parts):
    desk.house.off(parts[0], parts[1])
    return "done"


def tell_close(desk, parts):
    desk.house.close(parts[0], parts[1])
    return "done"


def tell_answer(desk, parts):
    desk.house.answer(parts[0], parts[1], parts[2], parts[3])
    return "done"


def tell_note(desk, parts):
    desk.house.note(parts[0], parts[1], parts[2], parts[3])
    return "done"


def tell_bring(desk, parts):
    desk.house.bring(parts[0])
    return "done"


def tell_days(desk, parts):
    return listed([day_text(day) for day in days_of(parts[2], parts[0], parts[1])])


def tell_shows(desk, parts):
    place = desk.places.get(parts[0])
    if place is None:
        raise NoPlace("there is no such place")
    local = shown(place, parts[1])
    # A local day that is no day is refused by its text.
    return day_text(local[0]) + " " + clock_text(local[1])


def tell_spans(desk, parts):
    texts = [span_text(span) + " " + span[2] for span in desk.house.spans(parts[0], parts[1], parts[2])]
    held = [span for span in desk.house.holds(parts[0]) if meets(span, parts[1], parts[2])]
    return listed(texts + [held_text(span) for span in held])


def tell_free(desk, parts):
    return listed([span_text(span) for span in desk.house.free(parts[3], parts[0], parts[1], parts[2])])


def tell_meetings(desk, parts):
    return listed([meeting_text(told) for told in desk.house.told(parts[0])])


TELLERS = {
    "ask": tell_ask,
    "move": tell_move,
    "off": tell_off,
    "close": tell_close,
    "answer": tell_answer,
    "note": tell_note,
    "bring": tell_bring,
    "days": tell_days,
    "shows": tell_shows,
    "spans": tell_spans,
    "free": tell_free,
    "meetings": tell_meetings,
}


def answer_to(desk, request):
    """The answer to a deed or a question, a pair of its word and its parts."""
    teller = TELLERS[request[0]]
    try:
        return teller(desk, request[1])
    except HouseError as refusal:
        return "refused " + refusal_word(refusal)


def answers(text):
    """The list of the answers to the rows of a sheet behind its house."""
    sheet = read_sheet(text)
    desk = Desk(sheet)
    return [answer_to(desk, request) for request in sheet.requests]
