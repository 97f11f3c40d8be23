"""Points [7.1] to [7.5], and (c), (d) and (e) of point [3]: the house."""

import inspect
import random
import unittest

from helper import HUGE, check_refused
from hourhouse.books import Book
from hourhouse.clocks import Place
from hourhouse.errors import Busy, Closed, Full, Known, NoHand, NoLetter, NoMeeting, NoSpan, NoThing, NoWord
from hourhouse.house import House
from hourhouse.rules import Every
from test_spans import laid_of

HERE = Place("here", 0)
HANDS = ("ann", "bob", "cid")
TWENTY = tuple([f"h{number}" for number in range(10, 30)])
NO_HANDS = ("dan", "", "Ann", "an", "ann ", "a b")


def everything(house, hands=HANDS):
    """All that a house tells, far and wide."""
    told = [(house.told(hand), house.holds(hand), house.spans(hand, -9999, 99999)) for hand in hands]
    return house.row(), told, house.free(hands, -9999, 99999)


def bring_all(house):
    for place in range(0, len(house.row())):
        house.bring(place)


def met():
    """A house in which ann has asked bob and cid, and both know it."""
    house = House(HANDS)
    house.ask("ann", 100, 200, ("bob", "cid"))
    bring_all(house)
    return house


class Houses(unittest.TestCase):
    def refuse(self, house, error, deed, *arguments):
        """A deed is refused, and nothing is changed by it."""
        kept = everything(house, tuple(sorted(house.tables)))
        check_refused(self, error, deed, *arguments)
        self.assertEqual(everything(house, tuple(sorted(house.tables))), kept)


class Making(Houses):
    def test_arguments_and_defaults(self):
        told = {
            "ask": "(self, hand, begin, end, hands)", "move": "(self, hand, number, begin, end)",
            "off": "(self, hand, number)", "close": "(self, hand, number)",
            "answer": "(self, hand, asker, number, word='yes')", "note": "(self, hand, name, begin, end)",
            "bring": "(self, place)", "row": "(self)", "told": "(self, hand)", "holds": "(self, hand)",
            "spans": "(self, hand, begin, end)", "free": "(self, hands, begin, end, least=1)",
        }
        self.assertEqual(str(inspect.signature(House)), "(hands, books=None)")
        for name, signature in told.items():
            self.assertEqual(str(inspect.signature(getattr(House, name))), signature)

    def test_hands(self):
        for hands in (("ann",), HANDS, TWENTY, ("a", "aa", "b", "b1", "bb")):
            house = House(hands)
            self.assertEqual(house.row(), [])
            for hand in hands:
                self.assertEqual((house.told(hand), house.holds(hand), house.spans(hand, -9, 9)), ([], [], []))
        for hands in (
            (), TWENTY + ("z",), ("bob", "ann"), ("ann", "ann"), ("ann", "bob", "bob"), ("Ann",), ("",), ("ann", ""),
            ("ann", "b b"), ("ann", "cid", "bob"), ("1a",), ("a12345678",), ("b", "aa"),
        ):
            check_refused(self, NoHand, House, hands)
            check_refused(self, NoHand, House, hands, {})

    def test_books(self):
        book = Book()
        book.once("trip", 5, 9)
        for books in ({"dan": book}, {"ann": book, "dan": Book()}, {"": book}, {"Ann": book}):
            check_refused(self, NoHand, House, HANDS, books)
        for books in (None, {}):
            self.assertEqual(House(HANDS, books).spans("ann", 0, 99), [])
        house = House(HANDS, {"bob": book})
        self.assertEqual(house.spans("bob", 0, 99), [(5, 9, "trip")])
        self.assertEqual(house.spans("ann", 0, 99), [])
        self.assertEqual(House(HANDS, books={"ann": Book()}).spans("ann", 0, 99), [])

    def test_the_house_keeps_twins(self):
        book = Book()
        book.once("trip", 5, 9)
        book.again("run", Every(1), HERE, 600, 10)
        books = {"bob": book, "cid": book}
        house = House(HANDS, books)
        told = house.spans("bob", 0, 1440)
        book.drop("trip")
        book.leave("run", 0)
        book.once("new", 50, 60)
        books["ann"] = book
        self.assertEqual(house.spans("bob", 0, 1440), told)
        self.assertEqual(house.spans("cid", 0, 1440), told)
        self.assertEqual(house.spans("ann", 0, 1440), [])
        # Nor does the house change what was handed in, nor one hand's book the other's.
        kept = book.spans(0, 1440)
        house.note("bob", "walk", 100, 110)
        self.assertEqual(book.spans(0, 1440), kept)
        self.assertEqual(house.spans("cid", 0, 1440), told)
        self.assertEqual(sorted(books), ["ann", "bob", "cid"])

    def test_one_hand(self):
        house = House(("ann",))
        self.refuse(house, NoHand, house.ask, "ann", 0, 5, ())
        self.refuse(house, NoHand, house.ask, "ann", 0, 5, ("ann",))
        house.note("ann", "trip", 0, 5)
        self.assertEqual(house.free(("ann",), -5, 9), [(-5, 0), (5, 9)])


class Asking(Houses):
    def test_numbers_and_the_row(self):
        house = House(HANDS)
        self.assertEqual(house.ask("bob", 100, 200, ("cid", "ann")), 0)
        self.assertEqual(house.ask("bob", 200, 300, ("cid",)), 1)
        self.assertEqual(house.ask("ann", -50, -40, ("cid",)), 0)
        first = ("bid", "bob", 0, 1, 100, 200, ("ann", "cid"))
        second = ("bid", "bob", 1, 1, 200, 300, ("cid",))
        third = ("bid", "ann", 0, 1, -50, -40, ("cid",))
        self.assertEqual(house.row(), [
            ("ann", first), ("cid", first), ("ann", second), ("cid", second), ("bob", third), ("cid", third)])
        self.assertEqual([len(house.told(hand)) for hand in HANDS], [1, 2, 0])

    def test_twenty_hands(self):
        house = House(TWENTY)
        house.ask("h15", 0, 60, TWENTY[:5][::-1] + TWENTY[:5:-1])
        others = tuple([hand for hand in TWENTY if hand != "h15"])
        self.assertEqual(house.row(), [(hand, ("bid", "h15", 0, 1, 0, 60, others)) for hand in others])
        bring_all(house)
        for hand in others:
            house.answer(hand, "h15", 0)
        bring_all(house)
        house.close("h15", 0)
        bring_all(house)
        for hand in TWENTY:
            self.assertEqual(
                house.told(hand), [("h15", 0, 1, "closed", 0, 60, others, (), (), others, ())])
            self.assertEqual(house.holds(hand), [(0, 60, "h15", 0)])
        self.assertEqual(house.free(TWENTY, -5, 65), [(-5, 0), (60, 65)])

    def test_refused(self):
        house = House(HANDS)
        house.note("ann", "trip", 0, 50)
        for hand in NO_HANDS:
            self.refuse(house, NoHand, house.ask, hand, 100, 200, ("bob",))
            self.refuse(house, NoHand, house.ask, "ann", 100, 200, (hand,))
            self.refuse(house, NoHand, house.ask, "ann", 100, 200, ("bob", hand))
            # NoHand is due ahead of NoSpan and Busy.
            self.refuse(house, NoHand, house.ask, hand, 200, 100, ("bob",))
            self.refuse(house, NoHand, house.ask, "ann", 10, 10, (hand,))
            self.refuse(house, NoHand, house.ask, "ann", 10, 20, (hand, "bob"))
        for hands in ((), ("ann",), ("bob", "ann"), ("bob", "bob"), ("bob", "cid", "bob")):
            self.refuse(house, NoHand, house.ask, "ann", 100, 200, hands)
            self.refuse(house, NoHand, house.ask, "ann", 200, 100, hands)
            self.refuse(house, NoHand, house.ask, "ann", 10, 20, hands)
        for begin, end in ((100, 100), (200, 100), (HUGE, -HUGE), (10, 10), (20, 10)):
            self.refuse(house, NoSpan, house.ask, "ann", begin, end, ("bob",))
        for begin, end in ((0, 1), (49, 60), (-9, 1), (-9, 99), (10, 20), (-HUGE, HUGE)):
            self.refuse(house, Busy, house.ask, "ann", begin, end, ("bob",))
        # What was refused takes no number.
        self.assertEqual(house.ask("ann", 50, 60, ("bob",)), 0)
        self.refuse(house, Busy, house.ask, "ann", 59, 70, ("bob",))
        self.assertEqual(house.ask("ann", 60, 70, ("bob",)), 1)

    def test_those_asked_need_not_be_free(self):
        house = House(HANDS)
        house.note("bob", "trip", 0, 50)
        house.ask("ann", 10, 20, ("bob",))

    def test_the_hands_handed_in_stay(self):
        hands = ("cid", "bob")
        House(HANDS).ask("ann", 0, 5, hands)
        self.assertEqual(hands, ("cid", "bob"))


class Moving(Houses):
    def test_a_bid_of_the_next_turn(self):
        house = met()
        house.answer("bob", "ann", 0)
        house.move("ann", 0, 150, 250)
        letter = ("bid", "ann", 0, 2, 150, 250, ("bob", "cid"))
        self.assertEqual(house.row()[-2:], [("bob", letter), ("cid", letter)])
        self.assertEqual(house.holds("ann"), [(150, 250, "ann", 0)])
        self.assertEqual(house.holds("bob"), [(100, 200, "ann", 0)])
        bring_all(house)
        self.assertEqual(house.holds("bob"), [])
        house.move("ann", 0, 150, 250)
        self.assertEqual(house.told("ann")[0][2:6], (3, "open", 150, 250))

    def test_onto_its_own_span(self):
        house = met()
        for begin, end in ((100, 200), (120, 130), (50, 300), (199, 201)):
            house.move("ann", 0, begin, end)
        self.assertEqual(house.told("ann")[0][2], 5)

    def test_a_closed_one_is_open_then(self):
        house = met()
        house.answer("bob", "ann", 0)
        bring_all(house)
        house.close("ann", 0)
        bring_all(house)
        self.assertEqual(house.told("bob")[0][3], "closed")
        self.refuse(house, Closed, house.answer, "cid", "ann", 0, "yes")
        house.move("ann", 0, 300, 400)
        self.assertEqual(house.told("ann")[0][3:], ("open", 300, 400, (), (), ("bob", "cid"), (), ()))
        bring_all(house)
        house.answer("cid", "ann", 0, "yes")
        bring_all(house)
        self.assertEqual(house.told("ann")[0][3:], ("open", 300, 400, ("cid",), (), ("bob",), (), ()))
        house.close("ann", 0)
        self.assertEqual(house.told("ann")[0][3:], ("closed", 300, 400, ("cid",), (), ("bob",), ("cid",), ()))

    def test_refused(self):
        house = met()
        house.note("ann", "trip", 300, 400)
        house.ask("ann", 500, 600, ("bob",))
        house.ask("ann", 700, 800, ("bob",))
        house.off("ann", 2)
        for hand in NO_HANDS:
            self.refuse(house, NoHand, house.move, hand, 0, 10, 20)
            self.refuse(house, NoHand, house.move, hand, 9, 20, 10)
        for number in (-1, 3, 2, HUGE, -HUGE):
            self.refuse(house, NoMeeting, house.move, "ann", number, 10, 20)
            self.refuse(house, NoMeeting, house.move, "ann", number, 20, 10)
            self.refuse(house, NoMeeting, house.move, "ann", number, 300, 400)
        # One that it is asked for isn't one that it has asked for.
        self.refuse(house, NoMeeting, house.move, "bob", 0, 10, 20)
        for begin, end in ((10, 10), (20, 10), (310, 310), (HUGE, -HUGE)):
            self.refuse(house, NoSpan, house.move, "ann", 0, begin, end)
        for begin, end in ((300, 301), (250, 350), (399, 450), (500, 501), (599, 700), (0, 1000)):
            self.refuse(house, Busy, house.move, "ann", 0, begin, end)
        house.move("ann", 0, 600, 900)


class CallingOff(Houses):
    def test_an_off_of_the_next_turn(self):
        house = met()
        house.answer("bob", "ann", 0)
        house.off("ann", 0)
        letter = ("off", "ann", 0, 2)
        self.assertEqual(house.row()[-2:], [("bob", letter), ("cid", letter)])
        self.assertEqual(house.told("ann"), [("ann", 0, 2, "off", None, None, (), (), (), (), ())])
        self.assertEqual(house.holds("ann"), [])
        self.assertEqual(house.holds("bob"), [(100, 200, "ann", 0)])
        bring_all(house)
        self.assertEqual(house.holds("bob"), [])
        self.assertEqual(house.ask("ann", 100, 200, ("cid",)), 1)

    def test_refused(self):
        house = met()
        house.ask("ann", 500, 600, ("bob",))
        house.off("ann", 1)
        for hand in NO_HANDS:
            self.refuse(house, NoHand, house.off, hand, 0)
            self.refuse(house, NoHand, house.off, hand, 9)
        for number in (1, 2, -1, HUGE, -HUGE):
            self.refuse(house, NoMeeting, house.off, "ann", number)
            self.refuse(house, NoMeeting, house.close, "ann", number)
        self.refuse(house, NoMeeting, house.off, "bob", 0)
        self.refuse(house, NoMeeting, house.close, "bob", 0)


class Closing(Houses):
    def test_of_those_in_yes_by_its_own_table(self):
        house = met()
        house.answer("cid", "ann", 0)
        house.answer("bob", "ann", 0)
        # Only the answer of cid has come to ann.
        house.bring(2)
        house.close("ann", 0)
        letter = ("close", "ann", 0, 1, ("cid",))
        self.assertEqual(house.row()[-2:], [("bob", letter), ("cid", letter)])
        self.assertEqual(house.told("ann")[0][3:], ("closed", 100, 200, ("cid",), (), ("bob",), ("cid",), ()))
        self.assertEqual(house.holds("bob"), [(100, 200, "ann", 0)])
        bring_all(house)
        for hand in HANDS:
            self.assertEqual(
                house.told(hand)[0][3:], ("closed", 100, 200, ("bob", "cid"), (), (), ("cid",), ("bob",)))
        self.assertEqual([len(house.holds(hand)) for hand in HANDS], [1, 0, 1])

    def test_of_none(self):
        house = met()
        house.close("ann", 0)
        self.assertEqual(house.row()[-1], ("cid", ("close", "ann", 0, 1, ())))

    def test_of_the_turn(self):
        house = met()
        house.move("ann", 0, 300, 400)
        house.close("ann", 0)
        self.assertEqual(house.row()[-1], ("cid", ("close", "ann", 0, 2, ())))

    def test_refused(self):
        house = met()
        for hand in NO_HANDS:
            self.refuse(house, NoHand, house.close, hand, 0)
        house.close("ann", 0)
        self.refuse(house, Closed, house.close, "ann", 0)
        self.refuse(house, NoMeeting, house.close, "ann", 1)
        self.refuse(house, NoHand, house.close, "dan", 0)
        house.off("ann", 0)
        self.refuse(house, NoMeeting, house.close, "ann", 0)


class Answering(Houses):
    def test_words_and_agains(self):
        house = met()
        house.answer("bob", "ann", 0)
        house.answer("bob", "ann", 0, "no")
        house.answer("bob", "ann", 0, word="yes")
        house.answer("cid", "ann", 0, "no")
        letters = [pair[1] for pair in house.row()[2::2]]
        self.assertEqual(letters, [
            ("answer", "ann", 0, 1, "bob", 0, "yes"), ("answer", "ann", 0, 1, "bob", 1, "no"),
            ("answer", "ann", 0, 1, "bob", 2, "yes"), ("answer", "ann", 0, 1, "cid", 0, "no")])
        self.assertEqual([pair[0] for pair in house.row()[2:]], ["ann", "cid", "ann", "cid", "ann", "cid", "ann", "bob"])
        house.move("ann", 0, 300, 400)
        house.answer("bob", "ann", 0, "no")
        self.assertEqual(house.row()[-1][1], ("answer", "ann", 0, 1, "bob", 3, "no"))
        bring_all(house)
        house.answer("bob", "ann", 0, "no")
        self.assertEqual(house.row()[-1][1], ("answer", "ann", 0, 2, "bob", 0, "no"))

    def test_of_several_meetings_each_its_own_again(self):
        house = met()
        house.ask("ann", 300, 400, ("bob",))
        house.ask("cid", 500, 600, ("bob",))
        bring_all(house)
        house.answer("bob", "ann", 0)
        house.answer("bob", "ann", 1)
        house.answer("bob", "cid", 0)
        self.assertEqual([pair[1][5] for pair in house.row()[-6:]], [0] * 6)
        self.assertEqual(
            house.holds("bob"), [(100, 200, "ann", 0), (300, 400, "ann", 1), (500, 600, "cid", 0)])

    def test_to_the_latest_turn_that_it_knows(self):
        house = House(HANDS)
        house.ask("ann", 100, 200, ("bob",))
        house.move("ann", 0, 300, 400)
        self.refuse(house, NoMeeting, house.answer, "bob", "ann", 0)
        # The later bid comes first.
        house.bring(2)
        house.answer("bob", "ann", 0)
        self.assertEqual(house.row()[-1][1], ("answer", "ann", 0, 2, "bob", 0, "yes"))
        house.bring(0)
        self.assertEqual(house.holds("bob"), [(300, 400, "ann", 0)])

    def test_again_yes_is_not_busy_by_itself(self):
        house = met()
        house.answer("bob", "ann", 0)
        house.answer("bob", "ann", 0)
        self.assertEqual(house.holds("bob"), [(100, 200, "ann", 0)])

    def test_refused(self):
        house = met()
        house.ask("ann", 300, 400, ("cid",))
        house.ask("cid", 500, 600, ("bob",))
        house.ask("cid", 700, 800, ("bob",))
        house.off("cid", 1)
        bring_all(house)
        house.ask("cid", 900, 950, ("bob",))
        for hand in NO_HANDS:
            for word in ("yes", "no", "maybe"):
                self.refuse(house, NoHand, house.answer, hand, "ann", 0, word)
                self.refuse(house, NoHand, house.answer, "bob", hand, 0, word)
                self.refuse(house, NoHand, house.answer, hand, hand, 9, word)
        for word in ("", "Yes", "NO", "maybe", "yes ", "y"):
            self.refuse(house, NoWord, house.answer, "bob", "ann", 0, word)
            self.refuse(house, NoWord, house.answer, "bob", "ann", 9, word)
            self.refuse(house, NoWord, house.answer, "ann", "ann", 0, word)
        for word in ("yes", "no"):
            # None such; not asked; the asker; off; not known yet.
            for hand, asker, number in (
                ("bob", "ann", 2), ("bob", "ann", -1), ("bob", "ann", HUGE), ("bob", "bob", 0), ("bob", "ann", 1),
                ("ann", "cid", 0), ("ann", "ann", 0), ("bob", "cid", 1), ("bob", "cid", 2),
            ):
                self.refuse(house, NoMeeting, house.answer, hand, asker, number, word)

    def test_closed_and_busy(self):
        house = met()
        house.note("bob", "trip", 150, 160)
        self.refuse(house, Busy, house.answer, "bob", "ann", 0)
        self.refuse(house, Busy, house.answer, "bob", "ann", 0, "yes")
        house.answer("bob", "ann", 0, "no")
        house.close("ann", 0)
        # bob doesn't know it yet.
        house.answer("bob", "ann", 0, "no")
        bring_all(house)
        for word in ("yes", "no"):
            self.refuse(house, Closed, house.answer, "bob", "ann", 0, word)
        self.refuse(house, NoWord, house.answer, "bob", "ann", 0, "maybe")

    def test_busy_by_another_meeting(self):
        house = met()
        house.ask("cid", 199, 300, ("ann", "bob"))
        bring_all(house)
        self.refuse(house, Busy, house.answer, "ann", "cid", 0)
        self.refuse(house, Busy, house.answer, "cid", "ann", 0)
        house.answer("bob", "cid", 0)
        self.refuse(house, Busy, house.answer, "bob", "ann", 0)
        house.answer("bob", "cid", 0, "no")
        house.answer("bob", "ann", 0)
        self.refuse(house, Busy, house.answer, "bob", "cid", 0)
        self.refuse(house, Busy, house.ask, "bob", 150, 160, ("ann",))

    def test_spans_that_touch(self):
        house = met()
        house.ask("cid", 200, 300, ("bob",))
        house.note("bob", "trip", 50, 100)
        bring_all(house)
        house.answer("bob", "ann", 0)
        house.answer("bob", "cid", 0)
        house.note("bob", "walk", 300, 301)
        self.assertEqual(house.free(("bob",), 0, 400), [(0, 50), (301, 400)])


class Noting(Houses):
    def test_into_its_book(self):
        house = House(HANDS)
        self.assertIsNone(house.note("ann", "trip", 5, 9))
        self.assertEqual(house.spans("ann", 0, 99), [(5, 9, "trip")])
        self.assertEqual(house.spans("bob", 0, 99), [])
        self.assertEqual(house.row(), [])

    def test_refused(self):
        house = met()
        house.note("ann", "trip", 5, 9)
        for hand in NO_HANDS:
            self.refuse(house, NoHand, house.note, hand, "a", 0, 1)
            self.refuse(house, NoHand, house.note, hand, "", 1, 0)
        for name in ("", "A", "1a", "a12345678"):
            self.refuse(house, NoThing, house.note, "ann", name, 0, 1)
            self.refuse(house, NoThing, house.note, "ann", name, 1, 0)
            self.refuse(house, NoThing, house.note, "ann", name, 5, 6)
        for begin, end in ((0, 1), (1, 0), (5, 9), (100, 200)):
            self.refuse(house, Known, house.note, "ann", "trip", begin, end)
        for begin, end in ((1, 1), (9, 5), (150, 150), (HUGE, -HUGE)):
            self.refuse(house, NoSpan, house.note, "ann", "a", begin, end)
        # By its book, and by its table.
        for begin, end in ((5, 9), (8, 10), (0, 6), (6, 7), (100, 101), (199, 300), (0, 999)):
            self.refuse(house, Busy, house.note, "ann", "a", begin, end)
        house.note("ann", "a", 9, 100)
        house.note("bob", "a", 100, 200)

    def test_full(self):
        house = met()
        for number in range(0, 40):
            house.note("ann", f"n{number}", 1000 + number, 1001 + number)
        self.refuse(house, Full, house.note, "ann", "x", 0, 1)
        self.refuse(house, Full, house.note, "ann", "", 1, 0)
        self.refuse(house, Full, house.note, "ann", "n0", 100, 200)
        house.note("bob", "x", 0, 1)


class Bringing(Houses):
    def test_in_any_order_and_again(self):
        house = House(HANDS)
        house.ask("ann", 100, 200, ("bob",))
        self.assertIsNone(house.bring(1))
        self.assertEqual([len(house.told(hand)) for hand in HANDS], [1, 0, 1])
        house.bring(1)
        house.bring(0)
        house.bring(0)
        self.assertEqual([len(house.told(hand)) for hand in HANDS], [1, 1, 1])
        self.assertEqual(len(house.row()), 2)

    def test_no_such_place(self):
        house = House(HANDS)
        for place in (0, -1, 1, HUGE, -HUGE):
            self.refuse(house, NoLetter, house.bring, place)
        house.ask("ann", 100, 200, ("bob",))
        for place in (2, 3, -1, -2, HUGE, -HUGE):
            self.refuse(house, NoLetter, house.bring, place)


class Questions(Houses):
    def test_no_hand(self):
        house = met()
        for hand in NO_HANDS:
            check_refused(self, NoHand, house.told, hand)
            check_refused(self, NoHand, house.holds, hand)
            check_refused(self, NoHand, house.spans, hand, 0, 9)
            check_refused(self, NoHand, house.spans, hand, 9, 0)
            check_refused(self, NoHand, house.free, (hand,), 0, 9)
            check_refused(self, NoHand, house.free, ("ann", hand), 0, 9)
        for hands in ((), ("ann", "ann"), ("ann", "bob", "ann"), ("bob", "bob", "cid")):
            check_refused(self, NoHand, house.free, hands, 0, 9)
            check_refused(self, NoHand, house.free, hands, 9, 0)

    def test_spans_as_its_book(self):
        book = Book()
        book.once("trip", 5, 9)
        book.again("run", Every(1), HERE, 600, 10)
        house = House(HANDS, {"bob": book})
        for begin, end in ((0, 9999), (8, 600), (9, 600), (5, 5), (9, 0), (609, 2041), (-HUGE, 700)):
            self.assertEqual(house.spans("bob", begin, end), book.spans(begin, end))

    def test_free_hours(self):
        book = Book()
        book.once("trip", 0, 50)
        house = House(HANDS, {"bob": book})
        house.ask("ann", 100, 200, ("bob", "cid"))
        house.ask("cid", 180, 250, ("bob",))
        bring_all(house)
        house.answer("bob", "cid", 0)
        self.assertEqual(house.free(("ann",), 0, 300), [(0, 100), (200, 300)])
        self.assertEqual(house.free(("bob",), 0, 300), [(50, 180), (250, 300)])
        self.assertEqual(house.free(("bob", "ann"), 0, 300), [(50, 100), (250, 300)])
        self.assertEqual(house.free(("cid", "bob", "ann"), 40, 260), [(50, 100), (250, 260)])
        self.assertEqual(house.free(("ann", "bob"), 0, 300, 50), [(50, 100), (250, 300)])
        self.assertEqual(house.free(("ann", "bob"), 0, 300, 51), [])
        self.assertEqual(house.free(("ann", "bob"), 0, 301, least=51), [(250, 301)])
        self.assertEqual(house.free(("ann", "bob"), 300, 300), [])
        self.assertEqual(house.free(("ann", "bob"), 300, 0), [])
        self.assertEqual(house.free(("ann",), -HUGE, HUGE), [(-HUGE, 100), (200, HUGE)])

    def test_lists_told_are_the_askers_own(self):
        house = met()
        house.note("ann", "trip", 5, 9)
        kept = everything(house)
        for told in (
            house.row(), house.told("ann"), house.holds("ann"), house.spans("ann", 0, 99), house.free(HANDS, 0, 99),
        ):
            self.assertIs(type(told), list)
            self.assertGreater(len(told), 0)
            told.clear()
        self.assertEqual(everything(house), kept)
        told = everything(house)
        house.answer("bob", "ann", 0)
        house.note("bob", "walk", 5, 9)
        house.move("ann", 0, 300, 400)
        bring_all(house)
        self.assertEqual(told, kept)


def random_deed(house, chance, hands):
    """A deed by chance, sometimes one that is refused; True where it was done."""
    hand = chance.choice(hands)
    begin = chance.randrange(0, 60)
    end = begin + chance.randrange(1, 15)
    known = [told[:2] for told in house.told(hand)] + [(chance.choice(hands), chance.randrange(0, 3))]
    own = [number for asker, number in known if asker == hand] + [chance.randrange(0, 3)]
    others = [other for other in hands if other != hand or chance.randrange(0, 20) == 0]
    sort = chance.randrange(0, 20)
    try:
        if sort < 4:
            house.ask(hand, begin, end, tuple(chance.sample(others, chance.randrange(1, len(others) + 1))))
        elif sort < 5:
            house.move(hand, chance.choice(own), begin, end)
        elif sort < 6:
            house.close(hand, chance.choice(own))
        elif sort < 7 and chance.randrange(0, 2):
            house.off(hand, chance.choice(own))
        elif sort < 12:
            asker, number = chance.choice(known)
            house.answer(hand, asker, number, chance.choice(("yes", "yes", "yes", "no")))
        elif sort < 13:
            house.note(hand, f"n{chance.randrange(0, 50)}", begin, begin + chance.randrange(1, 3))
        else:
            house.bring(chance.randrange(0, len(house.row()) + 1))
    except (NoHand, NoMeeting, Closed, Busy, NoLetter, Known, Full):
        return False
    return True


class AtRandom(Houses):
    HANDS = ("ann", "bob", "cid", "dan")

    def house(self, chance):
        books = {}
        for hand in self.HANDS:
            if chance.randrange(0, 2):
                books[hand] = Book()
                books[hand].once("trip", 10, 10 + chance.randrange(1, 9))
        return House(self.HANDS, books)

    def check_held(self, house):
        """No moment is taken twice among the meetings that hold a hand, nor by these and its book."""
        for hand in self.HANDS:
            taken = []
            for span in house.holds(hand) + house.spans(hand, -9, 999):
                taken += range(span[0], span[1])
            self.assertEqual(len(taken), len(set(taken)))

    def check_free(self, house, chance):
        hands = tuple(chance.sample(self.HANDS, chance.randrange(1, 5)))
        begin = chance.randrange(-5, 40)
        end = begin + chance.randrange(0, 60)
        least = chance.choice((1, 1, 2, 5))
        taken = set()
        for hand in hands:
            for span in house.holds(hand) + house.spans(hand, -9, 999):
                taken.update(range(span[0], span[1]))
        spans = laid_of([moment for moment in range(begin, end) if moment not in taken])
        self.assertEqual(
            house.free(hands, begin, end, least), [span for span in spans if span[1] - span[0] >= least])

    def test_no_hand_is_held_twice_at_one_moment(self):
        chance = random.Random(24)
        done = 0
        for count in range(0, 60):
            house = self.house(chance)
            for many in range(0, 120):
                if random_deed(house, chance, self.HANDS):
                    done += 1
                    self.check_held(house)
            self.check_free(house, chance)
        self.assertGreater(done, 1000)

    def test_all_tell_the_same_when_all_is_brought(self):
        chance = random.Random(25)
        for count in range(0, 60):
            house = self.house(chance)
            for many in range(0, 100):
                random_deed(house, chance, self.HANDS)
            places = list(range(0, len(house.row()))) * 2
            chance.shuffle(places)
            for place in places:
                house.bring(place)
                self.check_held(house)
            told = house.told("ann")
            for hand in self.HANDS:
                self.assertEqual(house.told(hand), told)
            self.check_free(house, chance)

    def test_a_row_only_grows(self):
        chance = random.Random(26)
        house = self.house(chance)
        row = []
        for many in range(0, 300):
            random_deed(house, chance, self.HANDS)
            self.assertEqual(house.row()[:len(row)], row)
            row = house.row()
        self.assertGreater(len(row), 50)
