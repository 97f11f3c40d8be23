"""Point [7.2]: a hand's own spans."""

import inspect
import random
import unittest

from helper import HUGE
from hourhouse import views
from hourhouse.books import Book
from hourhouse.clocks import Place
from hourhouse.rules import Every
from hourhouse.tables import Table
from hourhouse.views import is_free, own_spans
from test_tables import plain_holds, table_of

HERE = Place("here", 0)
LETTERS = [
    ("bid", "ann", 0, 1, 100, 200, ("bob", "cid")),
    ("answer", "ann", 0, 1, "bob", 0, "yes"),
    ("bid", "bob", 0, 1, 150, 250, ("ann",)),
    ("bid", "bob", 1, 1, 400, 500, ("ann",)),
    ("bid", "cid", 0, 1, 600, 700, ("ann", "bob")),
    ("answer", "cid", 0, 1, "bob", 0, "no"),
    ("bid", "cid", 1, 1, 800, 900, ("bob",)),
    ("answer", "cid", 1, 1, "bob", 0, "yes"),
    ("off", "cid", 1, 2),
]


def bobs_book():
    book = Book()
    book.once("trip", 300, 350)
    book.once("same", 400, 500)
    book.again("run", Every(1), HERE, 1000, 60)
    return book


class OwnSpans(unittest.TestCase):
    def test_arguments_and_defaults(self):
        self.assertEqual(str(inspect.signature(views.own_spans)), "(book, table, hand, begin, end)")
        self.assertEqual(str(inspect.signature(views.is_free)), "(book, table, hand, begin, end, but=None)")

    def test_of_book_and_table(self):
        book = bobs_book()
        table = table_of(LETTERS)
        told = [(100, 200), (150, 250), (300, 350), (400, 500), (1000, 1060)]
        self.assertEqual(own_spans(book, table, "bob", 0, 1440), told)
        self.assertEqual(own_spans(book, table, "bob", 199, 1001), told)
        self.assertEqual(own_spans(book, table, "bob", 200, 1000), told[1:4])
        self.assertEqual(own_spans(book, table, "bob", 249, 250), told[1:2])
        self.assertEqual(own_spans(book, table, "bob", 250, 300), [])
        self.assertEqual(own_spans(book, table, "bob", 600, 900), [])
        self.assertEqual(own_spans(Book(), table, "ann", 0, 1440), [(100, 200)])
        self.assertEqual(own_spans(Book(), table, "cid", 0, 1440), [(600, 700)])
        self.assertEqual(own_spans(Book(), table, "dan", 0, 1440), [])
        for begin, end in ((150, 150), (180, 160), (HUGE, -HUGE), (310, 310), (320, 310)):
            self.assertEqual(own_spans(book, table, "bob", begin, end), [])

    def test_the_list_is_the_askers_own(self):
        book = bobs_book()
        table = table_of(LETTERS)
        told = own_spans(book, table, "bob", 0, 400)
        kept = list(told)
        told.clear()
        self.assertEqual(own_spans(book, table, "bob", 0, 400), kept)
        for span in kept:
            self.assertIs(type(span), tuple)


class Free(unittest.TestCase):
    def check(self, hand, spans, expected, but=None):
        for begin, end in spans:
            self.assertIs(is_free(bobs_book(), table_of(LETTERS), hand, begin, end, but), expected, (begin, end))

    def test_by_book_and_table(self):
        self.check("bob", ((0, 100), (250, 300), (350, 400), (500, 1000), (600, 700), (800, 900), (-50, 1)), True)
        self.check("bob", (
            (0, 101), (99, 101), (120, 130), (199, 200), (200, 201), (249, 260), (250, 301), (349, 350), (400, 401),
            (0, 1440), (1059, 1060), (999, 1001), (-HUGE, HUGE)), False)

    def test_a_meeting_left_aside(self):
        self.check("bob", ((150, 250), (200, 250)), False, ("ann", 0))
        self.check("bob", ((100, 150), (120, 130), (0, 150)), True, ("ann", 0))
        self.check("bob", ((200, 250), (210, 220)), True, ("bob", 0))
        self.check("bob", ((150, 200), (199, 201)), False, ("bob", 0))
        # The book counts all the same, and so do meetings of another asker or number.
        self.check("bob", ((400, 500), (300, 310)), False, ("bob", 1))
        self.check("bob", ((100, 150),), False, ("ann", 1))
        self.check("bob", ((100, 150),), False, ("bob", 0))
        self.check("bob", ((120, 130),), False, None)

    def test_left_out(self):
        self.assertIs(is_free(Book(), Table(), "ann", 0, 5), True)
        self.assertIs(is_free(Book(), table_of(LETTERS), "ann", 100, 101), False)
        self.assertIs(is_free(Book(), table_of(LETTERS), "ann", 100, 101, but=("ann", 0)), True)

    def test_as_a_count_moment_by_moment(self):
        chance = random.Random(23)
        for count in range(0, 300):
            book = Book()
            letters = []
            for number in range(0, chance.randrange(0, 4)):
                begin = chance.randrange(0, 30)
                book.once(f"t{number}", begin, begin + chance.randrange(1, 6))
                begin = chance.randrange(0, 30)
                letters.append(("bid", "ann", number, 1, begin, begin + chance.randrange(1, 6), ("bob",)))
                letters.append(("answer", "ann", number, 1, "bob", 0, chance.choice(("yes", "no"))))
            table = table_of(letters)
            hand = chance.choice(("ann", "bob"))
            but = chance.choice((None, ("ann", 0), ("ann", 1)))
            begin = chance.randrange(-3, 35)
            end = begin + chance.randrange(1, 8)
            book_spans = [span[:2] for span in book.spans(-9, 99)]
            held = plain_holds(table.told(), hand)
            own = [(span[0], span[1]) for span in held] + book_spans
            told = sorted(set(span for span in own if set(range(*span)) & set(range(begin, end))))
            self.assertEqual(own_spans(book, table, hand, begin, end), told)
            others = [(span[0], span[1]) for span in held if (span[2], span[3]) != but] + book_spans
            free = not any(set(range(*span)) & set(range(begin, end)) for span in others)
            self.assertIs(is_free(book, table, hand, begin, end, but), free)
