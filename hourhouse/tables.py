"""Tables of letters, and what they tell of meetings."""

from hourhouse.errors import NoLetter
from hourhouse.letters import is_letter


def turn_first(letter):
    """A bid or an off as it is compared: by its turn."""
    # Behind the turn the whole letter, so that nothing hangs on the order in which letters were taken.
    return (letter[3], letter)


def latest_of(letters):
    """The bid or the off of the greatest turn among the letters of one meeting, or None."""
    found = [letter for letter in letters if letter[0] == "bid" or letter[0] == "off"]
    return max(found, key=turn_first) if found else None


def answers_of(letters, turn):
    """The last answer of each hand to a turn, by hands: pairs of its again and its word."""
    last = {}
    for letter in letters:
        if letter[0] == "answer" and letter[3] == turn:
            last[letter[4]] = max(last.get(letter[4], (-1, "")), (letter[5], letter[6]))
    return last


def with_word(asked, answers, word):
    """Those asked whose last answer is a word, or who have none where word is None."""
    if word is None:
        return tuple([hand for hand in asked if hand not in answers])
    return tuple([hand for hand in asked if hand in answers and answers[hand][1] == word])


def told_of_bid(letters, bid):
    """What is told of a meeting whose latest is a bid."""
    turn = bid[3]
    asked = bid[6]
    answers = answers_of(letters, turn)
    yes = with_word(asked, answers, "yes")
    no = with_word(asked, answers, "no")
    silent = with_word(asked, answers, None)
    closes = [letter for letter in letters if letter[0] == "close" and letter[3] == turn]
    if not closes:
        return (bid[1], bid[2], turn, "open", bid[4], bid[5], yes, no, silent, (), ())
    come = max(closes)[4]
    late = tuple([hand for hand in yes if hand not in come])
    return (bid[1], bid[2], turn, "closed", bid[4], bid[5], yes, no, silent, come, late)


def told_of(letters):
    """What is told of a meeting by all its letters, or None."""
    latest = latest_of(letters)
    if latest is None:
        return None
    if latest[0] == "bid":
        return told_of_bid(letters, latest)
    return (latest[1], latest[2], latest[3], "off", None, None, (), (), (), (), ())


def is_held(told, hand):
    """Whether a hand is held by a meeting of which this is told."""
    if told[3] == "off":
        return False
    if told[0] == hand:
        return True
    return hand in told[6] and (told[3] == "open" or hand in told[9])


class Table:
    """A table that takes letters, in any order, each perhaps several times."""

    def __init__(self):
        self.kept = {}
        # Both by pairs of asker and number: all letters, and what is told where there is something to tell.
        self.by_meeting = {}
        self.tellings = {}

    def take(self, letter):
        """Take a letter; True where it wasn't there yet."""
        if not is_letter(letter):
            raise NoLetter("this is no letter")
        if letter in self.kept:
            return False
        self.kept[letter] = True
        meeting = (letter[1], letter[2])
        self.by_meeting.setdefault(meeting, []).append(letter)
        told = told_of(self.by_meeting[meeting])
        if told is not None:
            self.tellings[meeting] = told
        return True

    def letters(self):
        """The list of all letters, in order."""
        return sorted(self.kept)

    def told(self):
        """The list of what is told of all meetings, by asker, then number."""
        return [self.tellings[meeting] for meeting in sorted(self.tellings)]

    def meeting(self, asker, number):
        """What is told of a meeting, or None."""
        return self.tellings.get((asker, number))

    def holds(self, hand):
        """The list of (begin, end, asker, number) of all meetings that hold a hand, in order."""
        held = [told for told in self.told() if is_held(told, hand)]
        return sorted([(told[4], told[5], told[0], told[1]) for told in held])
