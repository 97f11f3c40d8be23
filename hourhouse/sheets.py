"""The reading of sheets: what their rows make, and the deeds and questions behind it."""

from hourhouse.books import Book
from hourhouse.clocks import Place
from hourhouse.days import read_day
from hourhouse.errors import HouseError, NoText
from hourhouse.letters import MOST_HANDS
from hourhouse.names import is_name
from hourhouse.ruletexts import read_number, read_rule
from hourhouse.texts import read_moment

# What stands behind the first word of a row; a rule or names take all words that are left.
MAKING = {
    "place": ("name", "number"),
    "change": ("name", "moment", "number"),
    "hand": ("name",),
    "once": ("name", "name", "moment", "moment"),
    "again": ("name", "name", "name", "number", "number", "rule"),
    "left": ("name", "name", "day"),
    "more": ("name", "name", "day"),
    "moved": ("name", "name", "day", "day"),
}
ASKING = {
    "ask": ("name", "moment", "moment", "names"),
    "move": ("name", "number", "moment", "moment"),
    "off": ("name", "number"),
    "close": ("name", "number"),
    "answer": ("name", "name", "number", "word"),
    "note": ("name", "name", "moment", "moment"),
    "bring": ("number",),
    "days": ("day", "day", "rule"),
    "shows": ("name", "moment"),
    "spans": ("name", "moment", "moment"),
    "free": ("moment", "moment", "least", "names"),
    "meetings": ("name",),
}


def read_name(word):
    """The name that a word is."""
    if not is_name(word):
        raise NoText("this word is no name")
    return word


def read_least(word):
    """The number from 1 on that a word is."""
    number = read_number(word)
    if number < 1:
        raise NoText("this number isn't from 1 on")
    return number


def read_one(sort, word):
    """The part of a row that a single word is."""
    if sort == "name":
        return read_name(word)
    if sort == "number":
        return read_number(word)
    if sort == "least":
        return read_least(word)
    if sort == "day":
        return read_day(word)
    return read_moment(word)


def read_rest(sort, words):
    """The part of a row that all the words left are."""
    if sort == "rule":
        return read_rule(" ".join(words))
    if sort == "names":
        if not words:
            raise NoText("the row has no name at its end")
        return tuple([read_name(word) for word in words])
    # The word of an answer is yes where it is left out.
    if words and words != ["yes"] and words != ["no"]:
        raise NoText("the answer is another word than yes or no")
    return words[0] if words else "yes"


def read_parts(form, words):
    """The parts of a row, by the sorts that its form tells."""
    parts = []
    place = 0
    for sort in form:
        if sort in ("rule", "names", "word"):
            parts.append(read_rest(sort, words[place:]))
            place = len(words)
        elif place < len(words):
            parts.append(read_one(sort, words[place]))
            place += 1
        else:
            raise NoText("the row ends too early")
    if place < len(words):
        raise NoText("the row has words behind its end")
    return parts


def known(made, name):
    """What was made under a name."""
    found = made.get(name)
    if found is None:
        raise NoText("the row names what isn't made")
    return found


class Sheet:
    """What a sheet makes: places and books by names; and its deeds and questions, pairs of a word and its parts."""

    def __init__(self):
        self.places = {}
        self.books = {}
        self.requests = []


def make_place(sheet, parts):
    if parts[0] in sheet.places:
        raise NoText("the place is made twice")
    sheet.places[parts[0]] = Place(parts[0], parts[1])


def make_change(sheet, parts):
    place = known(sheet.places, parts[0])
    # Another place is made, as things that come again keep it as it was.
    sheet.places[parts[0]] = Place(place.name, place.offset, place.changes + ((parts[1], parts[2]),))


def make_hand(sheet, parts):
    if parts[0] in sheet.books or len(sheet.books) >= MOST_HANDS:
        raise NoText("the hand is made twice, or there are too many")
    sheet.books[parts[0]] = Book()


def make_once(sheet, parts):
    known(sheet.books, parts[0]).once(parts[1], parts[2], parts[3])


def make_again(sheet, parts):
    place = known(sheet.places, parts[2])
    known(sheet.books, parts[0]).again(parts[1], parts[5], place, parts[3], parts[4])


def make_left(sheet, parts):
    known(sheet.books, parts[0]).leave(parts[1], parts[2])


def make_more(sheet, parts):
    known(sheet.books, parts[0]).extra(parts[1], parts[2])


def make_moved(sheet, parts):
    known(sheet.books, parts[0]).shift(parts[1], parts[2], parts[3])


MAKERS = {
    "place": make_place,
    "change": make_change,
    "hand": make_hand,
    "once": make_once,
    "again": make_again,
    "left": make_left,
    "more": make_more,
    "moved": make_moved,
}


def make_row(sheet, row):
    """Let a row make what it tells."""
    words = row.split(" ")
    maker = MAKERS.get(words[0])
    if maker is None:
        raise NoText("this row makes nothing")
    try:
        maker(sheet, read_parts(MAKING[words[0]], words[1:]))
    except HouseError:
        raise NoText("what this row makes is refused") from None


def read_request(row):
    """The deed or question of a row: a pair of its word and its parts."""
    words = row.split(" ")
    form = ASKING.get(words[0])
    if form is None:
        raise NoText("this row is no deed and no question")
    return (words[0], read_parts(form, words[1:]))


def rows_of(text):
    """The rows of a text, each of which has a line end behind it."""
    rows = text.split("\n")
    if rows.pop() != "":
        raise NoText("the last row has no line end")
    return rows


def read_sheet(text):
    """The sheet of a text."""
    rows = rows_of(text)
    if "house" not in rows:
        raise NoText("the sheet has no house")
    place = rows.index("house")
    sheet = Sheet()
    for row in rows[:place]:
        make_row(sheet, row)
    if not sheet.books:
        raise NoText("the house has no hand")
    sheet.requests = [read_request(row) for row in rows[place + 1:]]
    return sheet
