"""The house: hands with their books and tables, and the row of letters between them."""

from hourhouse.books import Book
from hourhouse.crowds import free
from hourhouse.errors import Busy, Closed, NoHand, NoLetter, NoMeeting, NoWord
from hourhouse.letters import MOST_HANDS, is_rising
from hourhouse.names import is_name
from hourhouse.spans import check_span
from hourhouse.tables import Table
from hourhouse.views import is_free, own_spans


def check_hands(hands):
    """Refuse hands that are none, too many, no names, or don't rise."""
    if len(hands) < 1 or len(hands) > MOST_HANDS:
        raise NoHand("a house has 1 to 20 hands")
    if not all([is_name(hand) for hand in hands]) or not is_rising(hands):
        raise NoHand("the hands of the house are no rising names")


def asked_of(told):
    """Those asked for a meeting of which this is told, rising."""
    return tuple(sorted(told[6] + told[7] + told[8]))


class House:
    """A house of hands."""

    def __init__(self, hands, books=None):
        check_hands(hands)
        handed = {} if books is None else books
        for name in handed:
            if name not in hands:
                raise NoHand("a book is of no hand of the house")
        self.books = {}
        self.tables = {}
        # By hands, and by hand, asker, number and turn: what its next meeting and its next answer are counted.
        self.numbers = {}
        self.agains = {}
        self.written = []
        for hand in hands:
            self.books[hand] = handed[hand].twin() if hand in handed else Book()
            self.tables[hand] = Table()

    def check_hand(self, hand):
        """Refuse one that is no hand of the house."""
        if hand not in self.tables:
            raise NoHand("this is no hand of the house")

    def check_unlike(self, hands):
        """Refuse no hands at all, one that is no hand of the house, or one that is there twice."""
        if not hands:
            raise NoHand("no hand is told")
        for place in range(0, len(hands)):
            self.check_hand(hands[place])
            if hands[place] in hands[:place]:
                raise NoHand("a hand is there twice")

    def check_free(self, hand, begin, end, but=None):
        """Refuse a span for which a hand isn't free, the meeting of the pair but left aside."""
        if not is_free(self.books[hand], self.tables[hand], hand, begin, end, but):
            raise Busy("the hand is not free")

    def standing(self, hand, asker, number):
        """What the table of a hand tells of a meeting, which is to be one that stands."""
        told = self.tables[hand].meeting(asker, number)
        if told is None or told[3] == "off":
            raise NoMeeting("there is no such meeting, or it is off")
        return told

    def write(self, hand, letter):
        """Let a hand write a letter: it takes it at once, and for each other hand it goes into the row."""
        self.tables[hand].take(letter)
        for other in self.tables:
            if other != hand:
                self.written.append((other, letter))

    def ask(self, hand, begin, end, hands):
        """Ask hands for a meeting; its number is told."""
        self.check_hand(hand)
        self.check_unlike(hands)
        if hand in hands:
            raise NoHand("the asker asks itself")
        check_span(begin, end)
        self.check_free(hand, begin, end)
        number = self.numbers.get(hand, 0)
        self.numbers[hand] = number + 1
        self.write(hand, ("bid", hand, number, 1, begin, end, tuple(sorted(hands))))
        return number

    def move(self, hand, number, begin, end):
        """Ask the same hands for a meeting at another span."""
        self.check_hand(hand)
        told = self.standing(hand, hand, number)
        check_span(begin, end)
        self.check_free(hand, begin, end, (hand, number))
        self.write(hand, ("bid", hand, number, told[2] + 1, begin, end, asked_of(told)))

    def off(self, hand, number):
        """Call a meeting off."""
        self.check_hand(hand)
        told = self.standing(hand, hand, number)
        self.write(hand, ("off", hand, number, told[2] + 1))

    def close(self, hand, number):
        """Close a meeting for those who have said yes."""
        self.check_hand(hand)
        told = self.standing(hand, hand, number)
        if told[3] == "closed":
            raise Closed("the meeting is closed")
        self.write(hand, ("close", hand, number, told[2], told[6]))

    def answer(self, hand, asker, number, word="yes"):
        """Answer to the latest turn of a meeting that the hand knows."""
        self.check_hand(hand)
        self.check_hand(asker)
        if word != "yes" and word != "no":
            raise NoWord("an answer is yes or no")
        told = self.standing(hand, asker, number)
        if hand not in asked_of(told):
            raise NoMeeting("the hand isn't asked for this meeting")
        if told[3] == "closed":
            raise Closed("the meeting is closed")
        if word == "yes":
            self.check_free(hand, told[4], told[5], (asker, number))
        said = (hand, asker, number, told[2])
        again = self.agains.get(said, 0)
        self.agains[said] = again + 1
        self.write(hand, ("answer", asker, number, told[2], hand, again, word))

    def note(self, hand, name, begin, end):
        """Put a thing that comes once into the book of a hand."""
        self.check_hand(hand)
        # On a twin, as the book may take the thing while the table has a meeting then.
        book = self.books[hand].twin()
        book.once(name, begin, end)
        self.check_free(hand, begin, end)
        self.books[hand] = book

    def bring(self, place):
        """Let the hand of a place of the row take its letter."""
        if place < 0 or place >= len(self.written):
            raise NoLetter("the row has no such place")
        pair = self.written[place]
        self.tables[pair[0]].take(pair[1])

    def row(self):
        """The list of pairs (hand, letter) of the row."""
        return list(self.written)

    def told(self, hand):
        """The list of what the table of a hand tells of all meetings."""
        self.check_hand(hand)
        return self.tables[hand].told()

    def holds(self, hand):
        """The list of (begin, end, asker, number) of all meetings that hold a hand, by its own table."""
        self.check_hand(hand)
        return self.tables[hand].holds(hand)

    def spans(self, hand, begin, end):
        """The list of (begin, end, name) that the book of a hand tells."""
        self.check_hand(hand)
        return self.books[hand].spans(begin, end)

    def free(self, hands, begin, end, least=1):
        """The list of the spans, from least minutes on, in which each of some hands is free."""
        self.check_unlike(hands)
        rows = [own_spans(self.books[hand], self.tables[hand], hand, begin, end) for hand in hands]
        return free(rows, begin, end, least)
