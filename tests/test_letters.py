"""Point [6.1]: letters."""

import inspect
import unittest

from helper import HUGE
from hourhouse import letters
from hourhouse.letters import is_letter

TWENTY = tuple([f"h{number}" for number in range(10, 30)])
TWENTY_ONE = tuple([f"h{number}" for number in range(10, 31)])
RIGHT = [
    ("bid", "ann", 0, 1, 10, 20, ("bob",)),
    ("bid", "ann", 7, 9, -20, -10, ("bob", "cid")),
    ("bid", "z9", HUGE, HUGE, -HUGE, HUGE, TWENTY),
    ("bid", "ann", 0, 1, 0, 1, ("b", "ba", "bb")),
    ("off", "ann", 0, 2),
    ("off", "ann", HUGE, HUGE),
    ("close", "ann", 0, 1, ()),
    ("close", "ann", 0, 1, ("bob",)),
    ("close", "ann", 5, 3, TWENTY),
    ("answer", "ann", 0, 1, "bob", 0, "yes"),
    ("answer", "ann", 0, 1, "bob", 0, "no"),
    ("answer", "bob", 3, HUGE, "ann", HUGE, "no"),
]
# What is no name, no number at all, no tuple of hands.
NO_NAMES = ("", "A", "1a", "a12345678", "a b", 5, 0, True, False, None, (), ("ann",))
NO_NUMBERS = ("1", "", True, False, None, (), (1,))
NO_HANDS = (
    None, "bob", 5, True, ("bob", "bob"), ("cid", "bob"), ("ann",), ("ann", "bob"), ("", "bob"), ("bob", "Cid"),
    ("bob", 5), (5,), (None,), (True,), (("bob",),), TWENTY_ONE, ("bob", "cid", "cid"), ("bob", "zed", "cid"),
)


def with_part(letter, place, part):
    return letter[:place] + (part,) + letter[place + 1:]


class Letters(unittest.TestCase):
    def refuse(self, letter, place, parts):
        for part in parts:
            wrong = with_part(letter, place, part)
            self.assertIs(is_letter(wrong), False, (place, part) if part not in (HUGE, -HUGE) else place)

    def test_arguments(self):
        self.assertEqual(str(inspect.signature(letters.is_letter)), "(letter)")

    def test_right(self):
        for letter in RIGHT:
            self.assertIs(is_letter(letter), True)

    def test_lengths(self):
        for letter in RIGHT:
            for length in range(0, len(letter)):
                self.assertIs(is_letter(letter[:length]), False)
            for more in (None, 0, "yes", (), ("bob",)):
                self.assertIs(is_letter(letter + (more,)), False)
        self.assertIs(is_letter(()), False)

    def test_sorts(self):
        for letter in RIGHT:
            self.refuse(letter, 0, (
                "", "Bid", "bids", "bid ", "offer", "ask", None, 0, 1, True, False, (), ("bid",), "yes"))
        for letter in RIGHT:
            for sort in ("bid", "off", "close", "answer"):
                if sort != letter[0]:
                    self.assertIs(is_letter(with_part(letter, 0, sort)), False)

    def test_asker_and_number(self):
        for letter in RIGHT:
            self.refuse(letter, 1, NO_NAMES)
            self.refuse(letter, 2, NO_NUMBERS + (-1, -HUGE))

    def test_turns(self):
        for letter in RIGHT:
            self.refuse(letter, 3, NO_NUMBERS + (0, -1, -HUGE))
        self.assertIs(is_letter(("off", "ann", 0, 1)), False)
        self.assertIs(is_letter(("off", "ann", 0, 2)), True)

    def test_spans_of_bids(self):
        bid = RIGHT[0]
        self.refuse(bid, 4, NO_NUMBERS + (20, 21, HUGE))
        self.refuse(bid, 5, NO_NUMBERS + (10, 9, -HUGE))
        # True and False would be a span, were they numbers.
        self.assertIs(is_letter(("bid", "ann", 0, 1, 0, True, ("bob",))), False)
        self.assertIs(is_letter(("bid", "ann", 0, 1, False, 5, ("bob",))), False)

    def test_hands_of_bids(self):
        self.refuse(RIGHT[0], 6, NO_HANDS + ((),))

    def test_hands_of_closes(self):
        self.refuse(RIGHT[7], 4, NO_HANDS)

    def test_answers(self):
        answer = RIGHT[9]
        self.refuse(answer, 4, NO_NAMES + ("ann",))
        self.refuse(answer, 5, NO_NUMBERS + (-1, -HUGE))
        self.refuse(answer, 6, ("", "Yes", "yes ", "maybe", "y", None, True, False, 1, 0, (), ("yes",)))
