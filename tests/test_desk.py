"""Points [8.2], [8.3] and [8.4], and point [3] from a sheet's text to its answers: the desk."""

import inspect
import random
import unittest

from helper import NAMES, check_refused, date_of_day
from hourhouse import desk, errors
from hourhouse.books import Book
from hourhouse.clocks import Place, shown
from hourhouse.days import day_of, day_text
from hourhouse.desk import answers
from hourhouse.errors import HouseError, NoText
from hourhouse.house import House
from hourhouse.listing import days_of
from hourhouse.ruletexts import read_rule
from test_house import random_deed

MAKING = (
    "place town 60",
    "change town 2026-03-29_01:00 120",
    "change town 2026-10-25_01:00 60",
    "hand bob",
    "hand ann",
    "once ann trip 2026-03-01_09:00 2026-03-01_10:00",
    "again ann run town 540 60 weekly 1",
    "left ann run 2026-03-02",
    "more ann run 2026-03-04",
    "moved ann run 2026-03-09 2026-03-10",
)
ASKING = (
    "ask ann 2026-03-01_10:00 2026-03-01_11:00 bob",
    "bring 0",
    "answer bob ann 0",
    "answer bob ann 0 no",
    "move ann 0 2026-03-01_11:00 2026-03-01_12:00",
    "close ann 0",
    "note bob walk 2026-03-01_07:00 2026-03-01_08:00",
    "days 2026-03-01 2026-03-20 every 7 2026-03-03",
    "shows town 2026-03-29_01:00",
    "spans ann 2026-03-01_00:00 2026-03-11_00:00",
    "free 2026-03-01_00:00 2026-03-02_00:00 60 ann bob",
    "meetings ann",
    "off ann 0",
)
ANSWERS = [
    "0", "done", "done", "done", "done", "done", "done",
    "2026-03-03; 2026-03-10; 2026-03-17",
    "2026-03-29 03:00",
    "2026-03-01_09:00 2026-03-01_10:00 trip; 2026-03-04_08:00 2026-03-04_09:00 run; "
    "2026-03-10_08:00 2026-03-10_09:00 run; 2026-03-01_11:00 2026-03-01_12:00 ann/0",
    "2026-03-01_00:00 2026-03-01_07:00; 2026-03-01_08:00 2026-03-01_09:00; "
    "2026-03-01_10:00 2026-03-01_11:00; 2026-03-01_12:00 2026-03-02_00:00",
    "ann/0 2 closed yes no silent bob come late",
    "done",
]
START = day_of(2026, 3, 1) * 1440


def sheet(making, asking=()):
    return "".join([row + "\n" for row in list(making) + ["house"] + list(asking)])


def text_of(moment):
    day, minute = divmod(moment, 1440)
    return f"{date_of_day(day).isoformat()}_{minute // 60:02}:{minute % 60:02}"


class Desks(unittest.TestCase):
    def ask(self, *rows, making=MAKING):
        """The answer to the last of some rows behind house."""
        told = answers(sheet(making, rows))
        self.assertEqual(len(told), len(rows))
        return told[-1]

    def refuse(self, text):
        check_refused(self, NoText, answers, text)


class Whole(Desks):
    def test_arguments(self):
        self.assertEqual(str(inspect.signature(desk.answers)), "(text)")

    def test_a_sheet(self):
        text = sheet(MAKING, ASKING)
        self.assertEqual(answers(text), ANSWERS)
        # The same sheet again alike.
        told = answers(text)
        self.assertEqual(told, ANSWERS)
        told.clear()
        self.assertEqual(answers(text), ANSWERS)

    def test_the_least(self):
        self.assertEqual(answers("hand a\nhouse\n"), [])
        self.assertEqual(answers("hand a\nhouse\nmeetings a\n"), ["none"])

    def test_hands_in_any_order(self):
        told = answers(sheet(
            ("hand bob", "hand cid", "hand ann"),
            ("ask bob 2026-03-01_10:00 2026-03-01_11:00 cid ann", "bring 0", "meetings ann", "meetings cid")))
        self.assertEqual(told, ["0", "done", "bob/0 1 open yes no silent ann cid come late", "none"])

    def test_a_place_and_a_hand_called_alike(self):
        self.assertEqual(answers(sheet(
            ("hand a", "place a 0", "hand house", "place house 5", "again a a a 0 1 every 1"),
            ("shows a 2026-03-01_10:00", "shows house 2026-03-01_10:00", "meetings house",
             "spans a 2026-03-01_00:00 2026-03-01_00:01"))),
            ["2026-03-01 10:00", "2026-03-01 10:05", "none", "2026-03-01_00:00 2026-03-01_00:01 a"])

    def test_a_thing_keeps_the_place_as_it_is_then(self):
        making = (
            "place town 0", "hand a", "again a early town 600 5 every 1", "change town 2026-03-01_00:00 60",
            "again a late town 600 5 every 1", "change town 2026-03-02_00:00 120", "again a last town 600 5 every 1",
        )
        self.assertEqual(
            self.ask("spans a 2026-03-02_00:00 2026-03-03_00:00", making=making),
            "2026-03-02_08:00 2026-03-02_08:05 last; 2026-03-02_09:00 2026-03-02_09:05 late; "
            "2026-03-02_10:00 2026-03-02_10:05 early")
        self.assertEqual(self.ask("shows town 2026-03-02_00:00", making=making), "2026-03-02 02:00")


class NoSheet(Desks):
    def test_line_ends(self):
        text = sheet(MAKING, ASKING)
        self.refuse("")
        self.refuse("\n")
        self.refuse(text[:-1])
        self.refuse(text + "\n")
        self.refuse("\n" + text)
        self.refuse(text.replace("\n", "\n\n", 1))
        self.refuse(text.replace("house\n", "house\n\n"))
        self.refuse(text.replace("\nhouse", "\n\nhouse"))
        self.refuse(text.replace("\n", " "))
        self.refuse(text + "meetings ann")
        self.refuse(text + " \n")
        self.refuse("hand a\nhouse")
        self.refuse("hand a\thouse\n")

    def test_no_house_or_no_hand(self):
        self.refuse("hand a\n")
        self.refuse("house\n")
        self.refuse("place a 0\nhouse\n")
        self.refuse("hand a\nHouse\n")
        self.refuse("hand a\nhouse a\n")
        self.refuse("hand a\nhouse \n")
        self.refuse("hand a\n house\n")
        self.refuse("hand a\nhouse\nhouse\n")
        self.refuse("house\nhand a\n")
        self.refuse("house\nhand a\nhouse\n")
        self.refuse("hand a\nmeetings a\n")
        self.refuse("".join([row + "\n" for row in MAKING + ASKING]))

    def test_rows_out_of_their_place(self):
        for row in MAKING:
            self.refuse(sheet(MAKING, (row,)))
            self.refuse(sheet(MAKING, ASKING + (row,)))
        self.refuse(sheet(MAKING, ("hand cid",)))
        self.refuse(sheet(MAKING, ("place other 0",)))
        self.refuse(sheet(MAKING, ("once ann new 2026-03-05_09:00 2026-03-05_10:00",)))
        for row in ASKING:
            self.refuse(sheet(MAKING + (row,)))
            self.refuse(sheet((row,) + MAKING))

    def test_a_row_too_few_ahead(self):
        """Each row stands behind what it names."""
        for row in ("place town 60", "hand ann", "again ann run town 540 60 weekly 1"):
            place = MAKING.index(row)
            self.refuse(sheet(MAKING[:place] + MAKING[place + 1:], ASKING))
            self.refuse(sheet(MAKING[:place] + MAKING[place + 1:] + (row,), ASKING))
        for rows in (
            ("hand a", "once b n 2026-03-01_09:00 2026-03-01_10:00"), ("hand a", "change p 2026-03-01_09:00 0"),
            ("hand a", "again a n p 0 1 every 1"), ("hand a", "left a n 2026-03-01"), ("hand a", "more a n 2026-03-01"),
            ("hand a", "moved a n 2026-03-01 2026-03-02"), ("hand a", "place p 0", "again b n p 0 1 every 1"),
            ("hand a", "place p 0", "again a n a 0 1 every 1"), ("place p 0", "hand a", "left b n 2026-03-01"),
            ("hand a", "hand b", "place p 0", "again a n p 0 1 every 1", "left b n 2026-03-01"),
            ("hand a", "place p 0", "again a n p 0 1 every 1", "left a m 2026-03-01"),
        ):
            self.refuse(sheet(rows))

    def test_each_row_with_a_word_or_sign_more_or_less(self):
        rows = MAKING + ("house",) + ASKING
        for number, row in enumerate(rows):
            words = row.split(" ")
            wrong = [row + " ", " " + row, row + "\t", "\t" + row, row.upper(), row + "\n", row + " X", row + "~"]
            for place in range(0, len(words)):
                ahead, word, behind = words[:place], words[place], words[place + 1:]
                wrong.append(" ".join(ahead + ["X", word] + behind))
                wrong.append(" ".join(ahead + ["X"] + behind))
                wrong.append(" ".join(ahead + ["", word] + behind))
                wrong.append(" ".join(ahead + [word, ""] + behind))
                wrong.append(" ".join(ahead + ["0" + word] + behind))
                wrong.append(" ".join(ahead + ["+" + word] + behind))
                wrong.append(" ".join(ahead + ["-0"] + behind))
                wrong.append(" ".join(ahead + [word.replace(word[0], "~")] + behind))
                wrong.append("\t".join([" ".join(ahead), " ".join([word] + behind)]))
                if not (row.startswith("answer") and place == 4) and not (row.startswith("free") and place > 3):
                    if not (row.startswith("days") and place == 5):
                        wrong.append(" ".join(ahead + behind))
            for other in wrong:
                text = "".join([line + "\n" for line in rows[:number] + (other,) + rows[number + 1:]])
                with self.subTest(repr(other)):
                    self.refuse(text)

    def test_behind_house_all_ahead_of_any_answer(self):
        for row in (
            "", "ask", "ask ann", "ask ann 2026-03-01_10:00 2026-03-01_11:00", "ask ann 2026-03-01_10:00 bob bob",
            "ask ann 2026-03-01_10:00 2026-03-01_11:00 Bob", "ask ann 2026-03-01 2026-03-02 bob",
            "ask ann 2026-03-01_10:00 2026-03-01_24:00 bob", "ask 1 2026-03-01_10:00 2026-03-01_11:00 bob",
            "move ann x 2026-03-01_10:00 2026-03-01_11:00", "move ann 00 2026-03-01_10:00 2026-03-01_11:00",
            "off ann", "off ann 0 0", "off ann 01", "off ann -0", "close ann zero", "close 5 0",
            "answer bob ann", "answer bob ann 0 maybe", "answer bob ann 0 yes no", "answer bob ann 0 Yes",
            "answer bob ann yes", "answer bob ann 0 yes yes", "answer bob Ann 0", "note ann 1 2026-03-01_10:00 2026-03-01_11:00",
            "note ann a 10 20", "bring", "bring a", "bring 0 0", "bring 00", "bring +1", "days 2026-03-01 every 1",
            "days 2026-03-01 2026-03-02", "days 2026-03-01 2026-03-02 every 0", "days 2026-03-01 2026-03-02 (every 1)",
            "days 2026-03-01 2026-03-02 never 1", "days 2026-03-01 2400-01-01 every 1", "days 0 9 every 1",
            "days 2026-03-01 2026-03-02 either (never)  (never)", "shows town", "shows town 5", "shows Town 2026-03-01_10:00",
            "spans ann 2026-03-01_10:00", "spans ann 2026-03-01_10:00 2026-03-01_11:00 ann", "spans 2026-03-01_10:00",
            "free 2026-03-01_10:00 2026-03-01_11:00 1", "free 2026-03-01_10:00 2026-03-01_11:00 0 ann",
            "free 2026-03-01_10:00 2026-03-01_11:00 -1 ann", "free 2026-03-01_10:00 2026-03-01_11:00 ann",
            "free 2026-03-01_10:00 2026-03-01_11:00 01 ann", "free 2026-03-01_10:00 2026-03-01_11:00 1 ann ",
            "meetings", "meetings ann bob", "meetings Ann", "meeting ann", "told ann", "holds ann", "drop ann trip",
            "Ask ann 2026-03-01_10:00 2026-03-01_11:00 bob", "house", "place p 0",
        ):
            with self.subTest(row):
                self.refuse(sheet(MAKING, (row,)))
                self.refuse(sheet(MAKING, ASKING + (row,)))
                self.refuse(sheet(MAKING, (row,) + ASKING))


    def test_texts_with_any_sign_off_are_answered_or_refused(self):
        chance = random.Random(30)
        rows = MAKING + (
            "again ann old town 5 5 changed (either (weekly 3) (nth -1 2)) left 2026-03-01 more moved",
            "house") + ASKING + ("days 2026-01-01 2026-02-01 but (within -5 99 (every 9)) (shifted -3 (monthly 31))",)
        text = "".join([row + "\n" for row in rows])
        answered = 0
        for count in range(0, 1500):
            place = chance.randrange(0, len(text))
            sign = chance.choice(" ()-_:0123456789abdehnorstuvwy\n\t~/;A")
            other = text[:place] + chance.choice((sign, "", sign + text[place])) + text[place + 1:]
            try:
                told = answers(other)
            except NoText as refusal:
                self.assertIs(type(refusal), NoText)
                continue
            answered += 1
            self.assertEqual(len(told), len(ASKING) + 1)
        self.assertGreater(answered, 50)


class Making(Desks):
    def test_what_is_refused(self):
        for row in (
            "place town 0", "place p 901", "place p -901", "place P 0", "place 1p 0", "place p12345678 0", "place p",
            "change town 2026-10-25_01:00 0", "change town 2026-10-25_00:59 0", "change town 2026-10-26_00:00 901",
            "change town 2026-10-26_00:00 -901", "change other 2026-10-26_00:00 0", "change ann 2026-10-26_00:00 0",
            "hand ann", "hand bob", "hand Ann", "hand a b", "hand",
            "once ann trip 2026-03-05_09:00 2026-03-05_10:00", "once ann run 2026-03-05_09:00 2026-03-05_10:00",
            "once ann new 2026-03-05_10:00 2026-03-05_10:00", "once ann new 2026-03-05_10:00 2026-03-05_09:00",
            "once dan new 2026-03-05_09:00 2026-03-05_10:00", "once town new 2026-03-05_09:00 2026-03-05_10:00",
            "again ann run town 540 60 weekly 1", "again ann trip town 540 60 weekly 1",
            "again ann new town 1440 60 weekly 1", "again ann new town -1 60 weekly 1",
            "again ann new town 540 0 weekly 1", "again ann new town 540 10081 weekly 1",
            "again ann new town 540 60 weekly 0", "again ann new town 540 60", "again ann new town 540 60 weekly",
            "again ann new ann 540 60 weekly 1", "again ann new other 540 60 weekly 1",
            "again dan new town 540 60 weekly 1", "again ann new town 540 60 (weekly 1)",
            "left ann trip 2026-03-02", "left ann other 2026-03-02", "left dan run 2026-03-02", "left bob run 2026-03-02",
            "more ann trip 2026-03-02", "more ann other 2026-03-02", "more ann run 2026-02-30",
            "moved ann trip 2026-03-02 2026-03-03", "moved ann other 2026-03-02 2026-03-03",
            "moved ann run 2026-03-02", "moved ann run 2026-03-02 2400-01-01", "drop ann trip", "leave ann run 2026-03-02",
        ):
            with self.subTest(row):
                self.refuse(sheet(MAKING + (row,)))
                self.refuse(sheet(MAKING + (row,), ASKING))

    def test_at_the_bounds(self):
        for row in (
            "place p 900", "place p -900", "place p 0", "change town 2026-10-25_01:01 900",
            "change town 2399-12-31_23:59 -900", "once ann new 2000-01-01_00:00 2399-12-31_23:59",
            "again ann new town 0 1 never", "again ann new town 1439 10080 never", "left ann run 2000-01-01",
            "more ann run 2399-12-31", "moved ann run 2000-01-01 2399-12-31", "moved ann run 2026-03-02 2026-03-02",
        ):
            self.assertEqual(answers(sheet(MAKING + (row,))), [])

    def test_as_many_as_told_and_one_more(self):
        hands = [f"hand h{number}" for number in range(0, 21)]
        self.assertEqual(answers(sheet(hands[:20])), [])
        self.refuse(sheet(hands))
        things = [f"once a n{number} 2026-03-01_09:00 2026-03-01_10:00" for number in range(0, 41)]
        self.assertEqual(answers(sheet(["hand a"] + things[:40])), [])
        self.refuse(sheet(["hand a"] + things))
        # Each hand has a book of its own.
        self.assertEqual(answers(sheet(["hand a", "hand b"] + things[:40] + [things[0].replace(" a ", " b ")])), [])
        again = ["hand a", "place p 0", "again a n p 0 1 every 1"]
        for row in ("left a n 2026-03-01", "more a n 2026-03-01", "moved a n 2026-03-01 2026-03-02"):
            self.assertEqual(answers(sheet(again + [row] * 8)), [])
            self.refuse(sheet(again + [row] * 9))
        changes = [f"change p {text_of(START + number)} {number % 7}" for number in range(0, 401)]
        self.assertEqual(answers(sheet(["hand a", "place p 0"] + changes[:400])), [])
        self.refuse(sheet(["hand a", "place p 0"] + changes))


class Deeds(Desks):
    ASK = "ask ann 2026-03-01_10:00 2026-03-01_11:00 bob"

    def test_numbers_of_ask(self):
        told = answers(sheet(MAKING, (
            self.ASK, "ask ann 2026-03-01_11:00 2026-03-01_12:00 bob", "ask bob 2026-03-01_11:00 2026-03-01_12:00 ann")))
        self.assertEqual(told, ["0", "1", "0"])

    def test_refused(self):
        for rows, word in (
            (("ask dan 2026-03-01_10:00 2026-03-01_11:00 bob",), "nohand"),
            (("ask ann 2026-03-01_10:00 2026-03-01_11:00 ann",), "nohand"),
            (("ask ann 2026-03-01_10:00 2026-03-01_11:00 bob bob",), "nohand"),
            (("ask ann 2026-03-01_10:00 2026-03-01_11:00 bob dan",), "nohand"),
            (("ask ann 2026-03-01_10:00 2026-03-01_10:00 bob",), "nospan"),
            (("ask ann 2026-03-01_11:00 2026-03-01_10:00 dan",), "nohand"),
            (("ask ann 2026-03-01_09:59 2026-03-01_11:00 bob",), "busy"),
            ((self.ASK, self.ASK), "busy"),
            (("move ann 0 2026-03-01_11:00 2026-03-01_12:00",), "nomeeting"),
            ((self.ASK, "move dan 0 2026-03-01_11:00 2026-03-01_12:00"), "nohand"),
            ((self.ASK, "move ann 1 2026-03-01_11:00 2026-03-01_12:00"), "nomeeting"),
            ((self.ASK, "move ann -1 2026-03-01_11:00 2026-03-01_12:00"), "nomeeting"),
            ((self.ASK, "move ann 0 2026-03-01_12:00 2026-03-01_12:00"), "nospan"),
            ((self.ASK, "move ann 0 2026-03-01_09:00 2026-03-01_12:00"), "busy"),
            ((self.ASK, "off ann 0", "off ann 0"), "nomeeting"),
            (("off dan 0",), "nohand"),
            (("off ann 999999999999999999",), "nomeeting"),
            ((self.ASK, "close ann 0", "close ann 0"), "closed"),
            (("close ann 0",), "nomeeting"),
            (("close dan 0",), "nohand"),
            ((self.ASK, "answer bob ann 0"), "nomeeting"),
            ((self.ASK, "bring 0", "answer bob dan 0"), "nohand"),
            ((self.ASK, "bring 0", "answer dan ann 0 no"), "nohand"),
            ((self.ASK, "bring 0", "answer ann ann 0 no"), "nomeeting"),
            ((self.ASK, "close ann 0", "bring 0", "bring 1", "answer bob ann 0 no"), "closed"),
            ((self.ASK, "bring 0", "note bob a 2026-03-01_10:59 2026-03-01_12:00", "answer bob ann 0 yes"), "busy"),
            (("note dan a 2026-03-01_10:00 2026-03-01_11:00",), "nohand"),
            (("note ann trip 2026-03-01_10:00 2026-03-01_11:00",), "known"),
            (("note ann a 2026-03-01_11:00 2026-03-01_11:00",), "nospan"),
            (("note ann a 2026-03-01_09:00 2026-03-01_11:00",), "busy"),
            (("bring 0",), "noletter"),
            ((self.ASK, "bring 1"), "noletter"),
            ((self.ASK, "bring -1"), "noletter"),
        ):
            with self.subTest(rows):
                self.assertEqual(self.ask(*rows), "refused " + word)

    def test_a_full_book(self):
        notes = [f"note bob n{number} {text_of(START + number)} {text_of(START + number + 1)}" for number in range(0, 41)]
        told = answers(sheet(MAKING, notes))
        self.assertEqual(told, ["done"] * 40 + ["refused full"])

    def test_done(self):
        for rows in (
            (self.ASK, "move ann 0 2026-03-01_10:00 2026-03-01_11:00"), (self.ASK, "off ann 0"),
            (self.ASK, "close ann 0"), (self.ASK, "bring 0"), (self.ASK, "bring 0", "bring 0"),
            (self.ASK, "bring 0", "answer bob ann 0"), (self.ASK, "bring 0", "answer bob ann 0 yes"),
            (self.ASK, "bring 0", "answer bob ann 0 no"), ("note bob a 2026-03-01_10:00 2026-03-01_11:00",),
        ):
            self.assertEqual(self.ask(*rows), "done")

    def test_an_answer_left_out_is_yes(self):
        for row, names in (("", "yes bob no"), (" yes", "yes bob no"), (" no", "yes no bob")):
            told = self.ask(self.ASK, "bring 0", "answer bob ann 0" + row, "meetings bob")
            self.assertEqual(told, f"ann/0 1 open {names} silent come late")

    def test_what_is_refused_changes_nothing(self):
        rows = [self.ASK, "bring 0", "answer bob ann 0", "bring 1"]
        refused = ["ask ann 2026-03-01_10:30 2026-03-01_11:00 bob", "off ann 7", "bring 9", "answer ann bob 0", "close bob 0"]
        asked = ["meetings ann", "meetings bob", "ask ann 2026-03-01_11:00 2026-03-01_12:00 bob", "bring 2", "meetings bob"]
        self.assertEqual(answers(sheet(MAKING, rows + refused + asked))[9:], answers(sheet(MAKING, rows + asked))[4:])

    def test_words_of_all_refusals(self):
        for name in NAMES:
            self.assertEqual(desk.refusal_word(getattr(errors, name)("why")), name.lower())


class Questions(Desks):
    def test_days(self):
        for row, told in (
            ("days 2026-03-01 2026-03-04 every 1", "2026-03-01; 2026-03-02; 2026-03-03"),
            ("days 2026-03-01 2026-03-01 every 1", "none"),
            ("days 2026-03-02 2026-03-01 every 1", "none"),
            ("days 2026-03-01 2026-03-31 never", "none"),
            ("days 2000-01-01 2399-12-31 yearly 2 29 2390-01-01", "2392-02-29; 2396-02-29"),
            ("days 2399-12-30 2399-12-31 every 1", "2399-12-30"),
            ("days 2026-03-01 2026-04-01 but (weekly 1) (changed (every 2 2026-03-01) left 2026-03-09 more moved)",
             "2026-03-02; 2026-03-09; 2026-03-16; 2026-03-30"),
            ("days 2026-03-01 2026-03-09 within -5 999999 (days 2026-03-05)", "2026-03-05"),
        ):
            self.assertEqual(self.ask(row), told)

    def test_shows(self):
        for row, told in (
            ("shows town 2026-03-29_00:59", "2026-03-29 01:59"),
            ("shows town 2026-03-29_01:00", "2026-03-29 03:00"),
            ("shows town 2026-10-25_00:59", "2026-10-25 02:59"),
            ("shows town 2026-10-25_01:00", "2026-10-25 02:00"),
            ("shows town 2026-03-01_23:30", "2026-03-02 00:30"),
            ("shows town 2399-12-31_22:59", "2399-12-31 23:59"),
            ("shows town 2399-12-31_23:00", "refused noday"),
            ("shows other 2026-03-01_10:00", "refused noplace"),
            ("shows ann 2026-03-01_10:00", "refused noplace"),
        ):
            self.assertEqual(self.ask(row), told)
        west = ("place west -60", "hand a")
        self.assertEqual(self.ask("shows west 2000-01-01_00:59", making=west), "refused noday")
        self.assertEqual(self.ask("shows west 2000-01-01_01:00", making=west), "2000-01-01 00:00")

    def test_spans(self):
        self.assertEqual(self.ask("spans bob 2026-03-01_00:00 2026-04-01_00:00"), "none")
        self.assertEqual(self.ask("spans dan 2026-03-01_00:00 2026-04-01_00:00"), "refused nohand")
        self.assertEqual(self.ask("spans ann 2026-03-01_10:00 2026-03-01_09:00"), "none")
        self.assertEqual(self.ask("spans ann 2026-03-01_09:30 2026-03-01_09:30"), "none")
        trip = "2026-03-01_09:00 2026-03-01_10:00 trip"
        self.assertEqual(self.ask("spans ann 2026-03-01_09:59 2026-03-01_10:00"), trip)
        self.assertEqual(self.ask("spans ann 2026-03-01_10:00 2026-03-01_10:01"), "none")

    def test_spans_of_meetings(self):
        rows = (
            "ask ann 2026-03-01_07:00 2026-03-01_08:00 bob",
            "ask ann 2026-03-01_06:00 2026-03-01_07:00 bob",
            "ask ann 2026-03-01_05:00 2026-03-01_06:00 bob", "off ann 2",
            "ask ann 2026-03-02_05:00 2026-03-02_06:00 bob",
        )
        trip = "2026-03-01_09:00 2026-03-01_10:00 trip"
        first = "2026-03-01_07:00 2026-03-01_08:00 ann/0"
        second = "2026-03-01_06:00 2026-03-01_07:00 ann/1"
        for question, told in (
            ("spans ann 2026-03-01_00:00 2026-03-02_00:00", [trip, second, first]),
            ("spans ann 2026-03-01_07:00 2026-03-01_09:00", [first]),
            ("spans ann 2026-03-01_06:59 2026-03-01_07:00", [second]),
            ("spans ann 2026-03-01_06:59 2026-03-01_07:01", [second, first]),
            ("spans ann 2026-03-01_07:30 2026-03-01_07:00", ["none"]),
            ("spans bob 2026-03-01_00:00 2026-03-02_00:00", ["none"]),
        ):
            self.assertEqual(self.ask(*rows, question), "; ".join(told))

    def test_moments_without_a_text(self):
        making = (
            "place east 60", "place west -60", "hand a", "again a first east 0 60 days 2000-01-01",
            "again a last west 1439 60 days 2399-12-31", "again a over east 1439 120 days 2399-12-31",
        )
        for row, told in (
            ("spans a 2000-01-01_00:00 2000-01-02_00:00", "none"),
            ("spans a 2399-12-31_22:00 2399-12-31_23:00", "refused notext"),
            ("spans a 2399-12-31_00:00 2399-12-31_22:00", "none"),
            ("free 2399-12-31_22:00 2399-12-31_23:59 1 a", "2399-12-31_22:00 2399-12-31_22:59"),
        ):
            self.assertEqual(self.ask(row, making=making), told)
        making = ("place east 60", "hand a", "again a first east 0 61 days 2000-01-01")
        self.assertEqual(self.ask("spans a 2000-01-01_00:00 2000-01-02_00:00", making=making), "refused notext")
        self.assertEqual(
            self.ask("free 2000-01-01_00:00 2000-01-01_01:00 1 a", making=making), "2000-01-01_00:01 2000-01-01_01:00")

    def test_free(self):
        hour = "2026-03-01_09:00 2026-03-01_11:00"
        for row, told in (
            (f"free {hour} 1 ann", "2026-03-01_10:00 2026-03-01_11:00"),
            (f"free {hour} 60 ann", "2026-03-01_10:00 2026-03-01_11:00"),
            (f"free {hour} 61 ann", "none"),
            (f"free {hour} 61 bob", "2026-03-01_09:00 2026-03-01_11:00"),
            (f"free {hour} 1 bob ann", "2026-03-01_10:00 2026-03-01_11:00"),
            (f"free {hour} 999999999999999999 bob", "none"),
            (f"free {hour} 1 dan", "refused nohand"),
            (f"free {hour} 1 ann dan", "refused nohand"),
            (f"free {hour} 1 ann ann", "refused nohand"),
            ("free 2026-03-01_09:00 2026-03-01_09:00 1 bob", "none"),
            ("free 2026-03-01_10:00 2026-03-01_09:00 1 bob", "none"),
        ):
            self.assertEqual(self.ask(row), told)

    def test_meetings(self):
        making = ("hand ann", "hand bob", "hand cid", "hand dan")
        rows = (
            "ask bob 2026-03-01_10:00 2026-03-01_11:00 dan cid ann", "ask ann 2026-03-01_10:00 2026-03-01_11:00 cid",
            "off ann 0", "bring 0", "bring 1", "bring 2", "answer dan bob 0", "answer cid bob 0", "answer ann bob 0 no",
            "bring 10", "close bob 0", "bring 13", "bring 15",
        )
        for hand, told in (
            ("bob", "bob/0 1 closed yes cid dan no ann silent come dan late cid"),
            ("ann", "ann/0 2 off; bob/0 1 open yes no ann silent cid dan come late"),
            ("dan", "bob/0 1 open yes dan no silent ann cid come late"),
            ("eve", "refused nohand"),
        ):
            self.assertEqual(self.ask(*rows, f"meetings {hand}", making=making), told)
        self.assertEqual(self.ask("meetings cid", making=making), "none")


class AsCalls(Desks):
    """A sheet is answered as a house is that is asked by calls."""

    HANDS = ("ann", "bob", "cid")

    def random_making(self, chance):
        """Rows that make, and what they make by calls."""
        rows = ["place town 60", "place far -300"]
        places = {"town": Place("town", 60), "far": Place("far", -300)}
        books = {hand: Book() for hand in self.HANDS}
        order = list(self.HANDS)
        chance.shuffle(order)
        rows += [f"hand {hand}" for hand in order]
        moment = START
        for number in range(0, chance.randrange(0, 12)):
            hand = chance.choice(self.HANDS)
            sort = chance.randrange(0, 3)
            if sort == 0:
                moment += chance.randrange(1, 3000)
                offset = chance.choice((0, 60, 120))
                rows.append(f"change town {text_of(moment)} {offset}")
                places["town"] = Place("town", 60, places["town"].changes + ((moment, offset),))
            elif sort == 1:
                begin = START + chance.randrange(0, 5000)
                rows.append(f"once {hand} n{number} {text_of(begin)} {text_of(begin + 90)}")
                books[hand].once(f"n{number}", begin, begin + 90)
            else:
                name = chance.choice(("town", "far"))
                rule = chance.choice(("every 1", "weekly 31 2026-03-01 2", "days 2026-03-02 2026-03-03"))
                rows.append(f"again {hand} n{number} {name} 540 45 {rule}")
                books[hand].again(f"n{number}", read_rule(rule), places[name], 540, 45)
                day = day_of(2026, 3, chance.randrange(1, 5))
                goal = day_of(2026, 3, chance.randrange(1, 5))
                rows.append(f"left {hand} n{number} {day_text(day)}")
                books[hand].leave(f"n{number}", day)
                rows.append(f"more {hand} n{number} {day_text(goal)}")
                books[hand].extra(f"n{number}", goal)
                rows.append(f"moved {hand} n{number} {day_text(goal)} {day_text(day)}")
                books[hand].shift(f"n{number}", goal, day)
        return rows, places, books

    def random_request(self, chance, house, places):
        """A row, and a call that gives its answer."""
        hand = chance.choice(self.HANDS + ("eve",))
        asker = chance.choice(self.HANDS)
        number = chance.randrange(0, 3)
        begin = START + chance.randrange(0, 5000)
        end = begin + chance.randrange(-1, 200)
        span = f"{text_of(begin)} {text_of(end)}"
        others = tuple(chance.sample(self.HANDS, chance.randrange(1, 3)))
        names = " ".join(others)
        word = chance.choice(("yes", "no"))
        place = chance.randrange(-1, len(house.row()) + 1)
        town = chance.choice(("town", "far", "nowhere"))
        day = begin // 1440

        def shows():
            if town not in places:
                raise errors.NoPlace("none")
            local = shown(places[town], begin)
            return f"{day_text(local[0])} {local[1] // 60:02}:{local[1] % 60:02}"

        def spans():
            told = [f"{text_of(one)} {text_of(other)} {name}" for one, other, name in house.spans(hand, begin, end + 900)]
            for one, other, name, many in house.holds(hand):
                if one < end + 900 and begin < other:
                    told.append(f"{text_of(one)} {text_of(other)} {name}/{many}")
            return "; ".join(told) or "none"

        def meetings():
            told = []
            for one in house.told(hand):
                text = f"{one[0]}/{one[1]} {one[2]} {one[3]}"
                if one[3] != "off":
                    for title, row in zip(("yes", "no", "silent", "come", "late"), one[6:]):
                        text += "".join([" " + part for part in (title,) + row])
                told.append(text)
            return "; ".join(told) or "none"

        def free():
            told = [f"{text_of(one)} {text_of(other)}" for one, other in house.free(others, begin, end + 900, 30)]
            return "; ".join(told) or "none"

        def days():
            return "; ".join([day_text(found) for found in days_of(read_rule("every 2"), day, day + 5)])

        later = f"{text_of(begin)} {text_of(end + 900)}"
        return chance.choice((
            (f"ask {hand} {span} {names}", lambda: str(house.ask(hand, begin, end, others))),
            (f"ask {hand} {span} {names}", lambda: str(house.ask(hand, begin, end, others))),
            (f"move {hand} {number} {span}", lambda: house.move(hand, number, begin, end)),
            (f"off {hand} {number}", lambda: house.off(hand, number)),
            (f"close {hand} {number}", lambda: house.close(hand, number)),
            (f"answer {hand} {asker} {number}", lambda: house.answer(hand, asker, number)),
            (f"answer {hand} {asker} {number} {word}", lambda: house.answer(hand, asker, number, word)),
            (f"answer {hand} {asker} {number} {word}", lambda: house.answer(hand, asker, number, word)),
            (f"note {hand} x{number} {span}", lambda: house.note(hand, f"x{number}", begin, end)),
            (f"bring {place}", lambda: house.bring(place)),
            (f"bring {place}", lambda: house.bring(place)),
            (f"shows {town} {text_of(begin)}", shows),
            (f"spans {hand} {later}", spans),
            (f"free {later} 30 {names}", free),
            (f"meetings {hand}", meetings),
            (f"days {day_text(day)} {day_text(day + 5)} every 2", days),
        ))

    def test_at_random(self):
        chance = random.Random(28)
        kinds = set()
        for count in range(0, 60):
            making, places, books = self.random_making(chance)
            house = House(self.HANDS, books)
            rows = []
            told = []
            for many in range(0, 60):
                row, call = self.random_request(chance, house, places)
                rows.append(row)
                try:
                    told.append(call() or "done")
                except HouseError as refusal:
                    told.append("refused " + type(refusal).__name__.lower())
                kinds.add(row.split(" ")[0] + " " + told[-1].split(" ")[0])
            text = sheet(making, rows)
            self.assertEqual(answers(text), told)
            self.assertEqual(answers(text), told)
        self.assertGreater(len(kinds), 30)


class OverAll(Desks):
    """What the document promises over the whole program, from a sheet's text to its answers."""

    def test_days_however_far(self):
        told = self.ask("days 2000-01-01 2399-12-31 but (every 1) (either (every 2) (every 3))")
        days = [day for day in range(0, 146096) if day % 2 and day % 3]
        self.assertEqual(told, "; ".join([day_text(day) for day in days]))

    def test_clocks(self):
        making = ("place p 0", "change p 2026-03-01_02:00 60", "change p 2026-03-01_04:00 -60", "hand a")
        rows = [f"shows p {text_of(START + minute)}" for minute in range(0, 600, 7)]
        told = []
        for minute in range(0, 600, 7):
            local = START + minute + (0 if minute < 120 else 60 if minute < 240 else -60)
            told.append(text_of(local).replace("_", " "))
        self.assertEqual(answers(sheet(making, rows)), told)
        making += tuple([f"again a n{number} p {number} 1 days 2026-03-01" for number in range(0, 400, 11)])
        told = self.ask("spans a 2026-03-01_00:00 2026-03-02_00:00", making=making).split("; ")
        for span in told:
            begin, end, name = span.split(" ")
            minute = int(name[1:])
            shows = self.ask(f"shows p {begin}", making=making)
            leapt = 120 <= minute < 180
            self.assertEqual(shows, "2026-03-01 03:00" if leapt else text_of(START + minute).replace("_", " "))

    def house_rows(self, chance):
        """Deeds of a house by chance, as rows."""
        hands = ("ann", "bob", "cid", "dan")
        house = House(hands)
        rows = []

        class Written:
            """Writes each deed that is done as a row."""

            row = staticmethod(house.row)
            told = staticmethod(house.told)

            def ask(self, hand, begin, end, asked):
                rows.append(f"ask {hand} {text_of(START + begin)} {text_of(START + end)} {' '.join(asked)}")
                house.ask(hand, begin, end, asked)

            def move(self, hand, number, begin, end):
                rows.append(f"move {hand} {number} {text_of(START + begin)} {text_of(START + end)}")
                house.move(hand, number, begin, end)

            def close(self, hand, number):
                rows.append(f"close {hand} {number}")
                house.close(hand, number)

            def off(self, hand, number):
                rows.append(f"off {hand} {number}")
                house.off(hand, number)

            def answer(self, hand, asker, number, word):
                rows.append(f"answer {hand} {asker} {number} {word}")
                house.answer(hand, asker, number, word)

            def note(self, hand, name, begin, end):
                rows.append(f"note {hand} {name} {text_of(START + begin)} {text_of(START + end)}")
                house.note(hand, name, begin, end)

            def bring(self, place):
                rows.append(f"bring {place}")
                house.bring(place)

        written = Written()
        for many in range(0, 80):
            random_deed(written, chance, hands)
        return rows, len(house.row())

    def held(self, told):
        """The spans of an answer, pairs of texts."""
        return [tuple(part.split(" ")[:2]) for part in told.split("; ") if part != "none"]

    def test_no_hand_is_held_twice_and_all_tell_the_same(self):
        chance = random.Random(29)
        making = ("hand ann", "hand bob", "hand cid", "hand dan")
        whole = "2026-03-01_00:00 2026-03-02_00:00"
        for count in range(0, 20):
            rows, many = self.house_rows(chance)
            questions = [f"spans {hand} {whole}" for hand in ("ann", "bob", "cid", "dan")]
            questions += [f"free {whole} 1 {hand}" for hand in ("ann", "bob", "cid", "dan")]
            told = answers(sheet(making, rows + questions))[-8:]
            for spans, free in zip(told[:4], told[4:]):
                taken = sorted(self.held(spans) + self.held(free))
                # What is taken and what is free stands side by side from end to end, and nothing meets.
                edges = [taken[0][0]] + [span[1] for span in taken]
                self.assertEqual([span[0] for span in taken] + [edges[-1]], edges)
                self.assertEqual((edges[0], edges[-1]), ("2026-03-01_00:00", "2026-03-02_00:00"))
            places = list(range(0, many)) + [chance.randrange(0, many) for again in range(0, 5)]
            chance.shuffle(places)
            brought = [f"bring {place}" for place in places]
            meetings = [f"meetings {hand}" for hand in ("ann", "bob", "cid", "dan")]
            told = answers(sheet(making, rows + brought + meetings))[-4:]
            self.assertEqual(told, [told[0]] * 4)
