"""Points [5.1], [5.2], [5.3] and [5.4]: books."""

import inspect
import random
import unittest

from helper import HUGE, check_refused
from hourhouse.books import Book
from hourhouse.clocks import Place, moment_of
from hourhouse.errors import Full, Known, NoDay, NoSpan, NoThing
from hourhouse.joins import Changed
from hourhouse.listing import days_of
from hourhouse.rules import Days, Every, Rule, Where
from test_clocks import random_place
from test_joins import random_rule
from test_spans import laid_of, moments

HERE = Place("here", 0)
WRONG_NAMES = ("", "A", "1a", "a12345678", "a b", "a\n", "-")


def filled(many):
    """A book of so many things that come once."""
    book = Book()
    for number in range(0, many):
        book.once(f"n{number}", number, number + 1)
    return book


def state(book):
    """All that a book tells, far and wide."""
    return book.things(), book.spans(-100000, 300000), book.busy(-100000, 300000)


class Interface(unittest.TestCase):
    def test_arguments(self):
        told = {
            "once": "(self, name, begin, end)", "again": "(self, name, rule, place, minute, length)",
            "drop": "(self, name)", "leave": "(self, name, day)", "extra": "(self, name, day)",
            "shift": "(self, name, day, goal)", "things": "(self)", "spans": "(self, begin, end)",
            "busy": "(self, begin, end)", "twin": "(self)",
        }
        self.assertEqual(str(inspect.signature(Book)), "()")
        for name, signature in told.items():
            self.assertEqual(str(inspect.signature(getattr(Book, name))), signature)

    def test_deeds_give_none(self):
        book = Book()
        self.assertIsNone(book.once("a", 0, 1))
        self.assertIsNone(book.again("b", Every(1), HERE, 0, 1))
        self.assertIsNone(book.leave("b", 5))
        self.assertIsNone(book.extra("b", 5))
        self.assertIsNone(book.shift("b", 5, 6))
        self.assertIsNone(book.drop("b"))

    def test_an_empty_one(self):
        self.assertEqual(state(Book()), ([], [], []))


class Spans(unittest.TestCase):
    def book(self):
        book = Book()
        book.once("trip", 100, 200)
        book.once("call", 100, 150)
        book.once("ache", 100, 200)
        book.again("run", Every(2), HERE, 60, 30)
        return book

    def test_things(self):
        self.assertEqual(self.book().things(), ["ache", "call", "run", "trip"])

    def test_order_and_whole_spans(self):
        told = [
            (60, 90, "run"), (100, 150, "call"), (100, 200, "ache"), (100, 200, "trip"), (2940, 2970, "run"),
        ]
        book = self.book()
        self.assertEqual(book.spans(0, 3000), told)
        self.assertEqual(book.spans(89, 2941), told)
        self.assertEqual(book.spans(90, 2940), told[1:4])
        self.assertEqual(book.spans(149, 150), told[1:4])
        self.assertEqual(book.spans(150, 151), told[2:4])
        self.assertEqual(book.spans(199, 200), told[2:4])
        self.assertEqual(book.spans(200, 2940), [])
        self.assertEqual(book.spans(90, 100), [])
        self.assertEqual(book.spans(89, 90), told[:1])
        for begin, end in ((150, 150), (160, 140), (HUGE, -HUGE)):
            self.assertEqual(book.spans(begin, end), [])
            self.assertEqual(book.busy(begin, end), [])
        for span in book.spans(0, 3000):
            self.assertIs(type(span), tuple)

    def test_busy_is_laid_and_cut(self):
        book = self.book()
        self.assertEqual(book.busy(0, 3000), [(60, 90), (100, 200), (2940, 2970)])
        self.assertEqual(book.busy(80, 2950), [(80, 90), (100, 200), (2940, 2950)])
        self.assertEqual(book.busy(120, 130), [(120, 130)])
        self.assertEqual(book.busy(90, 100), [])
        book.once("walk", 90, 100)
        self.assertEqual(book.busy(0, 2000), [(60, 200)])

    def test_spans_alike_are_told_once(self):
        leaps = Place("town", -900, ((2160, 900),))
        book = Book()
        book.again("a", Days((1, 2)), leaps, 0, 30)
        self.assertEqual(book.spans(0, 9999), [(2160, 2190, "a")])
        book.again("b", Days((1, 2)), leaps, 0, 30)
        self.assertEqual(book.spans(0, 9999), [(2160, 2190, "a"), (2160, 2190, "b")])

    def test_clocks_put_forward_and_back_at_that_minute(self):
        place = Place("town", 0, ((1560, 60), (4500, 0)))
        book = Book()
        book.again("a", Every(1), place, 150, 30)
        # Day 1 leaps over its minute 150; day 3 shows minute 200 twice: the first one counts.
        self.assertEqual(
            book.spans(0, 5000), [(150, 180, "a"), (1560, 1590, "a"), (2970, 3000, "a"), (4410, 4440, "a")])
        book = Book()
        book.again("a", Days((3,)), place, 200, 30)
        self.assertEqual(book.spans(0, 9999), [(4460, 4490, "a")])

    def test_far_off(self):
        book = Book()
        book.once("far", -HUGE, -HUGE + 5)
        book.once("late", HUGE, HUGE + 5)
        book.again("last", Days((146096,)), HERE, 1439, 10080)
        last = 146096 * 1440 + 1439
        self.assertEqual(
            book.spans(-HUGE, HUGE + 1),
            [(-HUGE, -HUGE + 5, "far"), (last, last + 10080, "last"), (HUGE, HUGE + 5, "late")])
        self.assertEqual(book.busy(last + 10079, HUGE + 1), [(last + 10079, last + 10080), (HUGE, HUGE + 1)])

    def test_as_a_plain_walk(self):
        chance = random.Random(18)
        for count in range(0, 60):
            book = Book()
            all_spans = []
            for number in range(0, chance.randrange(0, 5)):
                rule, test = random_rule(chance, chance.randrange(0, 3))
                place = random_place(chance)
                rising = sorted(dict([(moment % 20000, offset) for moment, offset in place.changes]).items())
                place = Place("a", place.offset, tuple(rising))
                minute = chance.randrange(0, 1440)
                length = chance.choice((1, 30, 2000, 10080))
                book.again(f"a{number}", rule, place, minute, length)
                for day in [day for day in range(0, 60) if test(day)]:
                    moment = moment_of(place, day, minute)
                    all_spans.append((moment, moment + length, f"a{number}"))
            for number in range(0, chance.randrange(0, 5)):
                begin = chance.randrange(-2000, 40000)
                length = chance.randrange(1, 5000)
                book.once(f"o{number}", begin, begin + length)
                all_spans.append((begin, begin + length, f"o{number}"))
            for many in range(0, 5):
                begin = chance.randrange(-3000, 40000)
                end = begin + chance.choice((0, -5, 1, 1440, chance.randrange(1, 9000)))
                told = [span for span in set(all_spans) if span[0] < end and begin < span[1] and begin < end]
                self.assertEqual(book.spans(begin, end), sorted(told))
                taken = [at for at in moments([span[:2] for span in told]) if begin <= at < end]
                self.assertEqual(book.busy(begin, end), laid_of(taken))

    def test_lists_told_are_the_askers_own(self):
        book = self.book()
        kept = state(book)
        for told in state(book):
            told.clear()
        self.assertEqual(state(book), kept)
        told = state(book)
        book.drop("run")
        book.once("new", 0, 50)
        self.assertEqual(told, kept)


class Exceptions(unittest.TestCase):
    def days(self, book):
        return [span[0] // 1440 for span in book.spans(0, 60 * 1440)]

    def book(self):
        book = Book()
        book.again("a", Every(10), HERE, 600, 5)
        return book

    def test_each_sort(self):
        book = self.book()
        book.leave("a", 10)
        self.assertEqual(self.days(book), [0, 20, 30, 40, 50])
        book.extra("a", 11)
        self.assertEqual(self.days(book), [0, 11, 20, 30, 40, 50])
        book.shift("a", 20, 21)
        self.assertEqual(self.days(book), [0, 11, 21, 30, 40, 50])
        book.extra("a", 10)
        self.assertEqual(self.days(book), [0, 10, 11, 21, 30, 40, 50])
        book.shift("a", 21, 22)
        self.assertEqual(self.days(book), [0, 10, 11, 22, 30, 40, 50])
        book.shift("a", 30, 30)
        self.assertEqual(self.days(book), [0, 10, 11, 22, 30, 40, 50])
        book.leave("a", 22)
        self.assertEqual(self.days(book), [0, 10, 11, 30, 40, 50])

    def test_as_changed_rules(self):
        chance = random.Random(19)
        for count in range(0, 60):
            rule = Every(3)
            book = Book()
            book.again("a", rule, HERE, 600, 5)
            for many in range(0, 8):
                day = chance.randrange(0, 30)
                goal = chance.randrange(0, 30)
                sort = chance.randrange(0, 3)
                if sort == 0:
                    book.leave("a", day)
                    rule = Changed(rule, (day,), (), ())
                elif sort == 1:
                    book.extra("a", day)
                    rule = Changed(rule, (), (day,), ())
                else:
                    book.shift("a", day, goal)
                    rule = Changed(rule, (), (), ((day, goal),))
            self.assertEqual(self.days(book), days_of(rule, 0, 60))

    def test_eight_and_one_more(self):
        for first in ("leave", "extra", "shift"):
            book = self.book()
            for count in range(0, 8):
                # Said again alike, each counts.
                if first == "shift":
                    book.shift("a", 10, 11)
                else:
                    getattr(book, first)("a", 10)
            kept = state(book)
            check_refused(self, Full, book.leave, "a", 10)
            check_refused(self, Full, book.extra, "a", 10)
            check_refused(self, Full, book.shift, "a", 10, 11)
            self.assertEqual(state(book), kept)
            # Made again it has none.
            book.drop("a")
            book.again("a", Every(10), HERE, 600, 5)
            self.assertEqual(self.days(book), [0, 10, 20, 30, 40, 50])
            book.leave("a", 10)
            self.assertEqual(self.days(book), [0, 20, 30, 40, 50])

    def test_of_each_thing_its_own(self):
        book = self.book()
        book.again("b", Every(10), HERE, 0, 5)
        for count in range(0, 8):
            book.leave("a", count)
        book.leave("b", 10)
        self.assertEqual([span[2] for span in book.spans(10 * 1440, 11 * 1440)], ["a"])

    def test_refusals_in_their_order(self):
        book = self.book()
        book.once("once", 0, 5)
        kept = state(book)
        deeds = (
            lambda name, day: book.leave(name, day), lambda name, day: book.extra(name, day),
            lambda name, day: book.shift(name, day, 5), lambda name, day: book.shift(name, 5, day),
        )
        for deed in deeds:
            for name in ("once", "other", "") + WRONG_NAMES:
                check_refused(self, NoThing, deed, name, 5)
                check_refused(self, NoThing, deed, name, -1)
            for wrong in (-1, 146097, HUGE, -HUGE):
                check_refused(self, NoDay, deed, "a", wrong)
        self.assertEqual(state(book), kept)
        for count in range(0, 8):
            book.extra("a", 10)
        for deed in deeds:
            check_refused(self, NoDay, deed, "a", 146097)
            check_refused(self, Full, deed, "a", 146096)
            check_refused(self, NoThing, deed, "once", 146096)

    def test_the_first_and_the_last_day(self):
        book = Book()
        book.again("a", Rule(), HERE, 0, 1)
        book.extra("a", 0)
        book.extra("a", 146096)
        self.assertEqual(book.spans(-HUGE, HUGE), [(0, 1, "a"), (146096 * 1440, 146096 * 1440 + 1, "a")])
        book.shift("a", 0, 146096)
        self.assertEqual(book.spans(-HUGE, HUGE), [(146096 * 1440, 146096 * 1440 + 1, "a")])


class Refusals(unittest.TestCase):
    def test_forty_things_and_one_more(self):
        book = filled(40)
        kept = state(book)
        self.assertEqual(len(book.things()), 40)
        check_refused(self, Full, book.once, "x", 0, 1)
        check_refused(self, Full, book.again, "x", Every(1), HERE, 0, 1)
        # Full is due ahead of all others.
        check_refused(self, Full, book.once, "", 0, 0)
        check_refused(self, Full, book.once, "n0", 0, 1)
        check_refused(self, Full, book.again, "", Every(1), HERE, -1, 0)
        check_refused(self, Full, book.again, "n0", Every(1), HERE, 0, 1)
        self.assertEqual(state(book), kept)
        book.drop("n7")
        book.again("n7", Every(1), HERE, 0, 1)
        check_refused(self, Full, book.once, "x", 0, 1)
        self.assertEqual(len(filled(39).things()), 39)

    def test_a_dropped_thing_comes_no_more(self):
        book = filled(2)
        book.drop("n0")
        self.assertEqual((book.things(), book.spans(0, 9)), (["n1"], [(1, 2, "n1")]))
        book.once("n0", 5, 6)
        self.assertEqual(book.spans(0, 9), [(1, 2, "n1"), (5, 6, "n0")])

    def test_once(self):
        book = filled(1)
        kept = state(book)
        for name in WRONG_NAMES:
            check_refused(self, NoThing, book.once, name, 0, 1)
            check_refused(self, NoThing, book.once, name, 1, 0)
        check_refused(self, Known, book.once, "n0", 5, 6)
        check_refused(self, Known, book.once, "n0", 5, 5)
        for begin, end in ((5, 5), (6, 5), (HUGE, -HUGE)):
            check_refused(self, NoSpan, book.once, "x", begin, end)
        self.assertEqual(state(book), kept)

    def test_again(self):
        book = filled(1)
        kept = state(book)
        for name in WRONG_NAMES:
            check_refused(self, NoThing, book.again, name, Every(1), HERE, 0, 1)
        check_refused(self, Known, book.again, "n0", Every(1), HERE, 0, 1)
        check_refused(self, Known, book.again, "n0", Every(1), HERE, -1, 0)
        for minute in (-1, 1440, HUGE, -HUGE):
            check_refused(self, NoThing, book.again, "x", Every(1), HERE, minute, 1)
        for length in (0, -1, 10081, HUGE, -HUGE):
            check_refused(self, NoThing, book.again, "x", Every(1), HERE, 0, length)
        self.assertEqual(state(book), kept)
        book.again("x", Rule(), HERE, 0, 1)
        book.again("y", Rule(), HERE, 1439, 10080)
        self.assertEqual(book.things(), ["n0", "x", "y"])

    def test_drop(self):
        book = filled(1)
        for name in ("n1", "") + WRONG_NAMES:
            check_refused(self, NoThing, book.drop, name)
        book.drop("n0")
        check_refused(self, NoThing, book.drop, "n0")


class Twins(unittest.TestCase):
    def book(self):
        book = filled(3)
        book.again("a", Every(10), HERE, 600, 5)
        book.leave("a", 10)
        return book

    def change(self, book):
        book.drop("n1")
        book.once("new", 70, 80)
        book.extra("a", 11)
        book.leave("a", 20)
        book.shift("a", 30, 31)

    def test_alike_and_apart(self):
        book = self.book()
        twin = book.twin()
        kept = state(book)
        self.assertIsInstance(twin, Book)
        self.assertIsNot(twin, book)
        self.assertEqual(state(twin), kept)
        self.change(book)
        self.assertEqual(state(twin), kept)
        self.change(twin)
        self.assertEqual(state(twin), state(book))
        other = self.book()
        self.change(other.twin())
        self.assertEqual(state(other), kept)

    def test_exceptions_are_counted_in_a_twin(self):
        book = self.book()
        for count in range(0, 5):
            book.leave("a", 10)
        twin = book.twin()
        twin.leave("a", 10)
        twin.leave("a", 10)
        check_refused(self, Full, twin.leave, "a", 10)
        book.leave("a", 10)
        book.leave("a", 10)
        check_refused(self, Full, book.leave, "a", 10)
        check_refused(self, Full, book.twin().leave, "a", 10)

    def test_of_a_full_one(self):
        check_refused(self, Full, filled(40).twin().once, "x", 0, 1)

    def test_a_where_is_a_rule_too(self):
        book = Book()
        book.again("w", Where(lambda day: day == 4), HERE, 0, 10)
        self.assertEqual(book.twin().spans(0, 99999), [(5760, 5770, "w")])
