"""Points [6.2], [6.3] and [6.4]: tables of letters."""

import inspect
import itertools
import random
import unittest

from helper import check_refused
from hourhouse.errors import NoLetter
from hourhouse.tables import Table
from test_letters import RIGHT

BID = ("bid", "ann", 0, 1, 10, 20, ("bob", "cid", "dan"))
LATER = ("bid", "ann", 0, 2, 30, 40, ("bob", "cid"))
OFF = ("off", "ann", 0, 3)


def answer(hand, word, turn=1, again=0, number=0):
    return ("answer", "ann", number, turn, hand, again, word)


def close(hands, turn=1):
    return ("close", "ann", 0, turn, hands)


def table_of(letters):
    table = Table()
    for letter in letters:
        table.take(letter)
    return table


def plain_told(letters, asker, number):
    """What the document tells of a meeting, word by word."""
    mine = [letter for letter in letters if letter[1:3] == (asker, number)]
    turns = [letter for letter in mine if letter[0] in ("bid", "off")]
    if not turns:
        return None
    latest = sorted(turns, key=lambda letter: letter[3])[-1]
    turn = latest[3]
    if latest[0] == "off":
        return (asker, number, turn, "off", None, None, (), (), (), (), ())
    words = {}
    for hand in latest[6]:
        answers = [letter for letter in mine if letter[0] == "answer" and letter[3] == turn and letter[4] == hand]
        words[hand] = sorted(answers, key=lambda letter: letter[5])[-1][6] if answers else None
    yes = tuple(hand for hand in latest[6] if words[hand] == "yes")
    no = tuple(hand for hand in latest[6] if words[hand] == "no")
    silent = tuple(hand for hand in latest[6] if words[hand] is None)
    closes = [letter for letter in mine if letter[0] == "close" and letter[3] == turn]
    if not closes:
        return (asker, number, turn, "open", latest[4], latest[5], yes, no, silent, (), ())
    come = closes[0][4]
    late = tuple(hand for hand in yes if hand not in come)
    return (asker, number, turn, "closed", latest[4], latest[5], yes, no, silent, come, late)


def plain_holds(tellings, hand):
    held = []
    for told in tellings:
        stands = told[3] != "off"
        if stands and (
            told[0] == hand or told[3] == "open" and hand in told[6]
            or told[3] == "closed" and hand in told[9] and hand in told[6]
        ):
            held.append((told[4], told[5], told[0], told[1]))
    return sorted(held)


class Interface(unittest.TestCase):
    def test_arguments(self):
        told = {
            "take": "(self, letter)", "letters": "(self)", "told": "(self)", "meeting": "(self, asker, number)",
            "holds": "(self, hand)",
        }
        self.assertEqual(str(inspect.signature(Table)), "()")
        for name, signature in told.items():
            self.assertEqual(str(inspect.signature(getattr(Table, name))), signature)

    def test_of_no_letters(self):
        table = Table()
        self.assertEqual((table.letters(), table.told(), table.holds("ann")), ([], [], []))
        self.assertIsNone(table.meeting("ann", 0))


class Taking(unittest.TestCase):
    def test_true_where_it_had_it_not(self):
        table = Table()
        for letter in RIGHT:
            self.assertIs(table.take(letter), True)
        for letter in reversed(RIGHT):
            self.assertIs(table.take(letter), False)
        self.assertEqual(len(table.letters()), len(RIGHT))
        self.assertEqual(set(table.letters()), set(RIGHT))

    def test_no_letter(self):
        table = table_of([BID, answer("bob", "yes")])
        kept = (table.letters(), table.told(), table.holds("bob"))
        for wrong in (
            (), ("bid",), ("bid", "ann", 0, 0, 10, 20, ("bob",)), ("bid", "ann", 0, True, 10, 20, ("bob",)),
            ("bid", "ann", False, 1, 10, 20, ("bob",)), ("off", "ann", 0, 1), ("close", "ann", 0, 1, ("ann",)),
            ("answer", "ann", 0, 1, "ann", 0, "yes"), ("answer", "ann", 0, 1, "bob", True, "no"),
            ("bid", "ann", 0, 2, 20, 10, ("bob",)), ("bid", "ann", 0, 2, 10, 20, ()), (None, None, None, None),
            ("answer", "ann", 0, 1, "bob", 1, None),
        ):
            check_refused(self, NoLetter, table.take, wrong)
        self.assertEqual((table.letters(), table.told(), table.holds("bob")), kept)

    def test_letters_in_an_order_of_their_own(self):
        letters = RIGHT + [BID, LATER, OFF, answer("bob", "yes"), answer("bob", "no", 1, 1), close(("bob",))]
        letters = list(dict.fromkeys(letters))
        told = table_of(letters).letters()
        chance = random.Random(20)
        for count in range(0, 20):
            chance.shuffle(letters)
            self.assertEqual(table_of(letters + letters[:5]).letters(), told)


class Told(unittest.TestCase):
    def check(self, letters, told):
        """What is told of the meeting of these letters, in whatever order they were taken."""
        for order in itertools.permutations(letters):
            table = table_of(order)
            self.assertEqual(table.meeting("ann", 0), told)
            self.assertEqual(table.told(), [] if told is None else [told])

    def test_an_open_one(self):
        self.check([BID], ("ann", 0, 1, "open", 10, 20, (), (), ("bob", "cid", "dan"), (), ()))
        self.check(
            [BID, answer("dan", "yes"), answer("bob", "yes"), answer("cid", "no")],
            ("ann", 0, 1, "open", 10, 20, ("bob", "dan"), ("cid",), (), (), ()))

    def test_the_greatest_again_counts(self):
        self.check(
            [BID, answer("bob", "no", 1, 0), answer("bob", "yes", 1, 1), answer("cid", "yes", 1, 3),
             answer("cid", "no", 1, 7)],
            ("ann", 0, 1, "open", 10, 20, ("bob",), ("cid",), ("dan",), (), ()))
        self.check(
            [BID, answer("bob", "yes", 1, 9), answer("bob", "no", 1, 10), answer("bob", "yes", 1, 2)],
            ("ann", 0, 1, "open", 10, 20, (), ("bob",), ("cid", "dan"), (), ()))

    def test_answers_of_others_and_to_other_turns(self):
        self.check(
            [BID, answer("eve", "yes"), answer("bob", "yes", 2), answer("cid", "yes", 1), answer("cid", "no", 3, 5)],
            ("ann", 0, 1, "open", 10, 20, ("cid",), (), ("bob", "dan"), (), ()))
        self.check(
            [LATER, BID, answer("bob", "yes", 1), answer("cid", "no", 2), answer("dan", "yes", 2)],
            ("ann", 0, 2, "open", 30, 40, (), ("cid",), ("bob",), (), ()))

    def test_a_closed_one(self):
        self.check(
            [BID, close(("bob",)), answer("bob", "yes"), answer("cid", "yes")],
            ("ann", 0, 1, "closed", 10, 20, ("bob", "cid"), (), ("dan",), ("bob",), ("cid",)))
        self.check(
            [BID, close(("bob", "eve")), answer("bob", "yes"), answer("bob", "no", 1, 1)],
            ("ann", 0, 1, "closed", 10, 20, (), ("bob",), ("cid", "dan"), ("bob", "eve"), ()))
        self.check([BID, close(())], ("ann", 0, 1, "closed", 10, 20, (), (), ("bob", "cid", "dan"), (), ()))

    def test_a_close_of_another_turn(self):
        self.check(
            [BID, close(("bob",), 2), answer("bob", "yes")],
            ("ann", 0, 1, "open", 10, 20, ("bob",), (), ("cid", "dan"), (), ()))
        self.check(
            [BID, LATER, close(("bob",), 1)], ("ann", 0, 2, "open", 30, 40, (), (), ("bob", "cid"), (), ()))

    def test_an_off_one(self):
        off = ("ann", 0, 3, "off", None, None, (), (), (), (), ())
        self.check([OFF], off)
        self.check([OFF, BID, LATER, answer("bob", "yes"), close(("bob",), 3)], off)
        # A bid behind an off stands.
        again = ("bid", "ann", 0, 4, 50, 60, ("eve",))
        self.check(
            [OFF, BID, again, answer("eve", "no", 4)], ("ann", 0, 4, "open", 50, 60, (), ("eve",), (), (), ()))

    def test_nothing_is_told_without_bid_or_off(self):
        self.check([answer("bob", "yes"), close(("bob",)), answer("cid", "no", 2)], None)

    def test_other_meetings(self):
        table = table_of([
            ("bid", "bob", 0, 1, 5, 6, ("ann",)), ("bid", "ann", 10, 1, 5, 6, ("bob",)),
            ("bid", "ann", 9, 1, 5, 6, ("bob",)), ("bid", "al", 11, 1, 5, 6, ("bob",)), ("off", "bob", 1, 2),
            answer("bob", "yes", 1, 0, 9), ("close", "zed", 0, 1, ()),
        ])
        self.assertEqual(
            [(told[0], told[1]) for told in table.told()],
            [("al", 11), ("ann", 9), ("ann", 10), ("bob", 0), ("bob", 1)])
        self.assertEqual(table.meeting("ann", 9)[6:9], (("bob",), (), ()))
        self.assertEqual(table.meeting("ann", 10)[6:9], ((), (), ("bob",)))
        self.assertIsNone(table.meeting("ann", 11))
        self.assertIsNone(table.meeting("zed", 0))
        self.assertIsNone(table.meeting("eve", 9))


class Holds(unittest.TestCase):
    def check(self, letters, holds):
        table = table_of(letters)
        for hand, spans in holds.items():
            self.assertEqual(table.holds(hand), spans, hand)

    def test_open(self):
        span = [(10, 20, "ann", 0)]
        self.check(
            [BID, answer("bob", "yes"), answer("cid", "no"), answer("eve", "yes")],
            {"ann": span, "bob": span, "cid": [], "dan": [], "eve": []})

    def test_closed(self):
        span = [(10, 20, "ann", 0)]
        self.check(
            [BID, close(("bob", "cid", "eve")), answer("bob", "yes"), answer("cid", "no"), answer("dan", "yes")],
            {"ann": span, "bob": span, "cid": [], "dan": [], "eve": []})

    def test_off_and_moved(self):
        self.check([BID, answer("bob", "yes"), OFF], {"ann": [], "bob": []})
        self.check([BID, answer("bob", "yes"), LATER], {"ann": [(30, 40, "ann", 0)], "bob": []})
        self.check(
            [BID, answer("bob", "yes", 2), LATER], {"ann": [(30, 40, "ann", 0)], "bob": [(30, 40, "ann", 0)]})
        self.check([answer("bob", "yes"), close(("bob",))], {"ann": [], "bob": []})

    def test_order(self):
        letters = []
        for asker, number, begin, end in (
            ("ann", 3, 5, 9), ("ann", 10, 5, 9), ("al", 99, 5, 9), ("ann", 0, 5, 8), ("cid", 0, 4, 99), ("ann", 9, 5, 9),
        ):
            letters.append(("bid", asker, number, 1, begin, end, ("bob",)))
            letters.append(("answer", asker, number, 1, "bob", 0, "yes"))
        self.check(letters, {"bob": [
            (4, 99, "cid", 0), (5, 8, "ann", 0), (5, 9, "al", 99), (5, 9, "ann", 3), (5, 9, "ann", 9),
            (5, 9, "ann", 10)]})


class AtRandom(unittest.TestCase):
    HANDS = ("ann", "bob", "cid", "dan")

    def letters(self, chance):
        """Letters as askers and hands may write them: one bid or off for a turn, one close, one answer for an again."""
        letters = []
        for asker in self.HANDS[:2]:
            for number in range(0, chance.randrange(1, 3)):
                others = [hand for hand in self.HANDS if hand != asker]
                for turn in range(1, chance.randrange(2, 5)):
                    asked = tuple(sorted(chance.sample(others, chance.randrange(1, 4))))
                    begin = chance.randrange(0, 50)
                    if turn > 1 and chance.randrange(0, 4) == 0:
                        letters.append(("off", asker, number, turn))
                    else:
                        letters.append(("bid", asker, number, turn, begin, begin + chance.randrange(1, 9), asked))
                    if chance.randrange(0, 2):
                        come = tuple(sorted(chance.sample(others, chance.randrange(0, 4))))
                        letters.append(("close", asker, number, turn, come))
                    for hand in others:
                        for again in range(0, chance.randrange(0, 3)):
                            word = chance.choice(("yes", "no"))
                            letters.append(("answer", asker, number, turn, hand, again, word))
        return chance.sample(letters, chance.randrange(0, len(letters) + 1))

    def everything(self, table):
        return table.letters(), table.told(), [table.holds(hand) for hand in self.HANDS]

    def test_as_the_document_tells(self):
        chance = random.Random(21)
        for count in range(0, 300):
            letters = self.letters(chance)
            table = table_of(letters)
            keys = sorted(set((letter[1], letter[2]) for letter in letters))
            tellings = [plain_told(letters, asker, number) for asker, number in keys]
            self.assertEqual([table.meeting(asker, number) for asker, number in keys], tellings)
            standing = [told for told in tellings if told is not None]
            self.assertEqual(table.told(), standing)
            for hand in self.HANDS:
                self.assertEqual(table.holds(hand), plain_holds(standing, hand))

    def test_in_whatever_order_and_however_often(self):
        chance = random.Random(22)
        for count in range(0, 100):
            letters = self.letters(chance)
            told = self.everything(table_of(letters))
            for many in range(0, 5):
                again = letters + [chance.choice(letters) for more in range(0, 5) if letters]
                chance.shuffle(again)
                table = Table()
                for letter in again:
                    table.take(letter)
                    # Asked on the way: that changes nothing.
                    table.told()
                self.assertEqual(self.everything(table), told)


class AskersOwn(unittest.TestCase):
    def test_lists_told(self):
        table = table_of([BID, answer("bob", "yes")])
        asked = (table.letters, table.told, lambda: table.holds("bob"))
        kept = [list(ask()) for ask in asked]
        for ask in asked:
            ask().clear()
        told = [ask() for ask in asked]
        self.assertEqual(told, kept)
        table.take(OFF)
        table.take(answer("cid", "yes"))
        self.assertEqual(told, kept)
        for tellings in (table.told(), table.letters(), table.holds("ann")):
            for telling in tellings:
                self.assertIs(type(telling), tuple)
