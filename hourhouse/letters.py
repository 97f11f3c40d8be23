"""Letters by which meetings are asked for, called off, closed and answered."""

from hourhouse.names import is_name
from hourhouse.spans import is_span

MOST_HANDS = 20


def is_number(value):
    """Whether a value is a whole number; True and False are none."""
    return isinstance(value, int) and not isinstance(value, bool)


def is_from(value, least):
    """Whether a value is a number from least on."""
    return is_number(value) and value >= least


def is_called(value):
    """Whether a value is a name."""
    return isinstance(value, str) and is_name(value)


def is_rising(hands):
    """Whether each name of some is above the one ahead."""
    return all([hands[place - 1] < hands[place] for place in range(1, len(hands))])


def are_hands(value, asker, least):
    """Whether a value is a tuple of least to 20 unlike names, rising, the asker not among them."""
    if not isinstance(value, tuple) or len(value) < least or len(value) > MOST_HANDS:
        return False
    if not all([is_called(hand) for hand in value]):
        return False
    return is_rising(value) and asker not in value


def is_bid(letter):
    """Whether a letter of a meeting is a bid."""
    if len(letter) != 7 or not is_from(letter[3], 1):
        return False
    if not is_number(letter[4]) or not is_number(letter[5]):
        return False
    return is_span(letter[4], letter[5]) and are_hands(letter[6], letter[1], 1)


def is_off(letter):
    """Whether a letter of a meeting calls it off."""
    return len(letter) == 4 and is_from(letter[3], 2)


def is_close(letter):
    """Whether a letter of a meeting closes it."""
    return len(letter) == 5 and is_from(letter[3], 1) and are_hands(letter[4], letter[1], 0)


def is_answer(letter):
    """Whether a letter of a meeting is an answer."""
    if len(letter) != 7 or not is_from(letter[3], 1):
        return False
    if not is_called(letter[4]) or letter[4] == letter[1] or not is_from(letter[5], 0):
        return False
    return letter[6] == "yes" or letter[6] == "no"


def is_letter(letter):
    """Whether a tuple is a letter."""
    if not isinstance(letter, tuple) or len(letter) < 4:
        return False
    if not is_called(letter[1]) or not is_from(letter[2], 0):
        return False
    if letter[0] == "bid":
        return is_bid(letter)
    if letter[0] == "off":
        return is_off(letter)
    if letter[0] == "close":
        return is_close(letter)
    return letter[0] == "answer" and is_answer(letter)
