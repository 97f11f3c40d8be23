"""Point [2.6]: the texts of rules."""

import inspect
import random
import unittest

from helper import HUGE, check_refused
from hourhouse import ruletexts
from hourhouse.days import day_of
from hourhouse.errors import NoText
from hourhouse.joins import Both, But, Changed, Either, Shifted, Within
from hourhouse.listing import days_of
from hourhouse.rules import Days, Every, Monthly, Nth, Rule, Weekly, Where, Yearly
from hourhouse.ruletexts import read_rule, rule_text
from test_joins import random_rule

MARCH = day_of(2026, 3, 1)
WRITTEN = [
    (Rule(), "never"),
    (Every(7, MARCH), "every 7 2026-03-01"),
    (Every(146096), "every 146096 2000-01-01"),
    (Weekly(127, MARCH, 1000), "weekly 127 2026-03-01 1000"),
    (Weekly(1), "weekly 1 2000-01-01 1"),
    (Monthly(31, 146096, 2), "monthly 31 2399-12-31 2"),
    (Monthly(-31), "monthly -31 2000-01-01 1"),
    (Nth(5, 0), "nth 5 0 2000-01-01 1"),
    (Nth(-5, 6, MARCH, 10), "nth -5 6 2026-03-01 10"),
    (Yearly(2, 29), "yearly 2 29 2000-01-01 1"),
    (Yearly(12, 31, MARCH, 400), "yearly 12 31 2026-03-01 400"),
    (Days(()), "days"),
    (Days((MARCH, 0, MARCH)), "days 2000-01-01 2026-03-01"),
    (Days((146096,)), "days 2399-12-31"),
    (Either(Rule(), Every(1)), "either (never) (every 1 2000-01-01)"),
    (Both(Days(()), Days((0,))), "both (days) (days 2000-01-01)"),
    (But(Weekly(3), Rule()), "but (weekly 3 2000-01-01 1) (never)"),
    (Within(Rule(), 0, 146097), "within 0 146097 (never)"),
    (Within(Every(2), -5, -7), "within -5 -7 (every 2 2000-01-01)"),
    (Within(Rule(), -999999999999999999, 999999999999999999),
     "within -999999999999999999 999999999999999999 (never)"),
    (Shifted(Rule(), 0), "shifted 0 (never)"),
    (Shifted(Rule(), -1000), "shifted -1000 (never)"),
    (Shifted(Every(10), 1000), "shifted 1000 (every 10 2000-01-01)"),
    (Changed(Rule()), "changed (never) left more moved"),
    (Changed(Rule(), None, (MARCH,)), "changed (never) left more 2026-03-01 moved"),
    (Changed(Every(1), (5, 3, 5), (2, 2), ((9, 8), (8, 9), (1, 1))),
     "changed (every 1 2000-01-01) left 2000-01-06 2000-01-04 2000-01-06 more 2000-01-03 2000-01-03"
     " moved 2000-01-10 2000-01-09 2000-01-09 2000-01-10 2000-01-02 2000-01-02"),
    (Changed(Changed(Rule(), (0,)), None, None, ((0, 1),)),
     "changed (changed (never) left 2000-01-01 more moved) left more moved 2000-01-01 2000-01-02"),
    (Either(Both(Rule(), Rule()), But(Rule(), Shifted(Rule(), 1))),
     "either (both (never) (never)) (but (never) (shifted 1 (never)))"),
]
LEFT_OUT = [
    ("every 7", "every 7 2000-01-01"),
    ("weekly 5", "weekly 5 2000-01-01 1"),
    ("weekly 5 2026-03-01", "weekly 5 2026-03-01 1"),
    ("monthly -1", "monthly -1 2000-01-01 1"),
    ("monthly 9 2026-03-01", "monthly 9 2026-03-01 1"),
    ("nth 1 2", "nth 1 2 2000-01-01 1"),
    ("nth -1 2 2026-03-01", "nth -1 2 2026-03-01 1"),
    ("yearly 1 31", "yearly 1 31 2000-01-01 1"),
    ("yearly 1 31 2026-03-01", "yearly 1 31 2026-03-01 1"),
    ("either (every 7) (weekly 5)", "either (every 7 2000-01-01) (weekly 5 2000-01-01 1)"),
    ("changed (nth 1 2) left more moved", "changed (nth 1 2 2000-01-01 1) left more moved"),
]
# Not written as told.
WRONG = [
    "", " ", "\n", "\t", "(", ")", "()", "(never)", "((never))", "nothing", "Never", "NEVER", "never never", "never 1",
    "never ()", "never (never)", "never)", "(never", "never ", " never", "never\n", "\nnever", "never\t", "rule",
    "every", "every ", "every 7 ", " every 7", "every  7", "every\t7", "every\n7", "every 07", "every 7.", "every +7",
    "every -0", "every 0", "every 00", "every seven", "every 7 7", "every 7 2026-03-01 1", "every 7 2026-3-1",
    "every 7 2026-02-29", "every 7 2400-01-01", "every 7 1999-12-31", "every 2026-03-01", "every 2026-03-01 7",
    "every 7 (never)", "every (7)", "every (7) 2026-03-01", "every 7 2026-03-01 ", "every 7  2026-03-01", "every -",
    "every 7)", "every7", "every 1_0", "every 1,0", "every 0x1", "every 7e0", "Every 7", "every 7 0",
    "weekly", "weekly 1 1", "weekly 1 1 2026-03-01", "weekly 1 2026-03-01 01", "weekly 1 2026-03-01 1 1",
    "weekly 1 2026-03-01 2026-03-01", "weekly -1", "weekly -0", "weekly 0", "weekly 128",
    "monthly", "monthly 1 1", "monthly 2026-03-01", "monthly --1", "monthly 1 2026-03-01 1 1", "monthly - 1",
    "nth", "nth 1", "nth 1 2026-03-01", "nth 1 1 1", "nth 1 1 2026-03-01 1 1", "nth 1 -1", "nth 1 1 1 2026-03-01",
    "yearly", "yearly 1", "yearly 1 2026-03-01", "yearly 1 1 1", "yearly 1 1 2026-03-01 1 1", "yearly 01 01",
    "days ", "days 5", "days 2026-03-01 2026-03-01", "days 2026-03-02 2026-03-01", "days 2026-03-01,2026-03-02",
    "days 2026-03-01  2026-03-02", "days 2026-03-01 ", "days (2026-03-01)", "days()", "days (never)", "day 2026-03-01",
    "days 2026-03-01 2026-03-02 2026-03-02", "days 2026-02-30", "days 2026-03-01 never", "days  2026-03-01",
    "either", "either (never)", "either never never", "either (never) never", "either (never) (never) (never)",
    "either (never)(never)", "either(never) (never)", "either  (never) (never)", "either (never)  (never)",
    "either (never) (never) ", "either ( never) (never)", "either (never ) (never)", "either (never) (never",
    "either (never) (never))", "either (never (never))", "either ((never)) (never)", "either () (never)", "either ( )",
    "either (never) ()", "either (never), (never)", "either [never] [never]", "either )never( (never)", "either (never) 1",
    "both (never)", "both (never) (never) (never)", "both (never) (never) 1", "both (every 0) (never)",
    "but (never)", "but (never) (never) (never)", "but (never) (weekly 128)", "but 1 (never) (never)",
    "within (never)", "within 1 (never)", "within 1 2", "within 1 2 never", "within 1 2 3 (never)", "within (never) 1 2",
    "within 01 2 (never)", "within 1 -0 (never)", "within 2026-03-01 2026-03-02 (never)", "within 1 2 (never) (never)",
    "within 1 2  (never)", "within  1 2 (never)", "within 1 2(never)", "within 1 2 (never) 3", "within +1 2 (never)",
    "shifted (never)", "shifted 1", "shifted 1 never", "shifted 1 2 (never)", "shifted 1 (never) (never)",
    "shifted -0 (never)", "shifted 1001 (never)", "shifted -1001 (never)", "shifted (never) 1", "shifted 00 (never)",
    "changed", "changed (never)", "changed (never) left", "changed (never) left more", "changed (never) more moved",
    "changed (never) left moved", "changed (never) more left moved", "changed (never) left more moved 2026-03-01",
    "changed (never) left more moved 2026-03-01 2026-03-02 2026-03-03", "changed never left more moved",
    "changed left more moved", "changed (never) left  more moved", "changed (never) left more  moved",
    "changed (never) left more moved ", "changed (never) left more moved left", "changed (never) left left more moved",
    "changed (never) left more more moved", "changed (never) left more moved moved", "changed (never)left more moved",
    "changed (never) left 5 more moved", "changed (never) left more 5 moved", "changed (never) left more moved 5 6",
    "changed (never) left (2026-03-01) more moved", "changed (never) left more (never) moved",
    "changed (never) left more moved (never)", "changed (never) (never) left more moved",
    "changed (never) 2026-03-01 left more moved", "changed (never) left, more, moved",
    "changed (never) left more moved 2026-03-01,2026-03-02", "changed (never) left more moved\n",
    "changed (never) Left more moved", "changed (never) left more moved 2026-03-01 2026-02-30",
    "changed (never) left 2400-01-01 more moved", "changed () left more moved",
    "both", "but", "within", "within 1", "shifted", "changed (", "either (", "either (never) (", "within 1 2 (",
    "where", "where (never)", "everyother", "none", "None",
]
# Written as told, but of what is refused.
REFUSED = [
    "every 0", "every 146097", "every -1", "weekly 0", "weekly 128", "weekly 1 2026-03-01 0",
    "weekly 1 2026-03-01 1001", "weekly 1 2026-03-01 -1", "monthly 0", "monthly 32", "monthly -32",
    "monthly 1 2026-03-01 0", "nth 0 1", "nth 6 1", "nth -6 1", "nth 1 7", "nth 1 -1", "nth 1 1 2026-03-01 1001",
    "yearly 0 1", "yearly 13 1", "yearly 1 0", "yearly 1 32", "yearly 2 30", "yearly 4 31", "yearly 1 -1",
    "yearly 1 1 2026-03-01 0", "shifted 1001 (never)", "shifted -1001 (never)", "every 999999999999999999",
    "either (never) (every 0)", "changed (monthly 0) left more moved", "within 0 1 (but (nth 6 1) (never))",
]


class Writing(unittest.TestCase):
    def test_names(self):
        self.assertEqual(str(inspect.signature(ruletexts.rule_text)), "(rule)")
        self.assertEqual(str(inspect.signature(ruletexts.read_rule)), "(text)")

    def test_written(self):
        for rule, text in WRITTEN:
            self.assertEqual(rule_text(rule), text)

    def test_where_has_no_text(self):
        where = Where(lambda day: True)
        for rule in (
            where, Either(where, Rule()), Either(Rule(), where), Both(where, Rule()), Both(Rule(), where),
            But(where, Rule()), But(Rule(), where), Within(where, 0, 9), Shifted(where, 1), Changed(where),
            Either(Rule(), Shifted(Changed(But(Rule(), where)), 3)),
        ):
            check_refused(self, NoText, rule_text, rule)

    def test_numbers_of_very_many_figures_break_nothing(self):
        check_refused(self, NoText, rule_text, Within(Rule(), 0, HUGE))
        check_refused(self, NoText, read_rule, "every 1" + "0" * 5000)
        check_refused(self, NoText, read_rule, "within 0 1" + "0" * 5000 + " (never)")


class Reading(unittest.TestCase):
    def test_what_is_written_is_read(self):
        for rule, text in WRITTEN:
            read = read_rule(text)
            self.assertEqual(rule_text(read), text)
            self.assertEqual(days_of(read, 0, 12000), days_of(rule, 0, 12000), text)
            self.assertEqual(days_of(read, 146000), days_of(rule, 146000), text)

    def test_left_out(self):
        for text, whole in LEFT_OUT:
            self.assertEqual(rule_text(read_rule(text)), whole)
            self.assertEqual(days_of(read_rule(text)), days_of(read_rule(whole)))

    def test_wrong_texts(self):
        for text in WRONG:
            with self.subTest(repr(text)):
                check_refused(self, NoText, read_rule, text)

    def test_texts_of_what_is_refused(self):
        for text in REFUSED:
            with self.subTest(text):
                check_refused(self, NoText, read_rule, text)

    def test_the_bounds_are_read(self):
        for text in (
            "every 1", "every 146096", "weekly 1", "weekly 127", "weekly 1 2399-12-31 1000", "monthly 31", "monthly -31",
            "nth 5 6", "nth -5 0", "yearly 2 29", "yearly 12 31", "shifted 1000 (never)", "shifted -1000 (never)",
        ):
            read_rule(text)

    def test_at_random(self):
        chance = random.Random(8)
        for count in range(0, 150):
            rule = random_rule(chance, chance.randrange(0, 6))[0]
            text = rule_text(rule)
            read = read_rule(text)
            self.assertEqual(rule_text(read), text)
            for begin, end in ((0, 200), (146000, 146097), (70000, 70200)):
                self.assertEqual(days_of(read, begin, end), days_of(rule, begin, end), text)

    def test_forty_within_one_another(self):
        for many in (40, 45):
            rule = Every(3)
            for level in range(0, many - 1):
                rule = Changed(rule, (level,)) if level % 4 == 0 and level < 48 else Either(rule, Within(Every(7), 0, 9))
            text = rule_text(rule)
            self.assertEqual(rule_text(read_rule(text)), text)
            self.assertEqual(days_of(read_rule(text), 0, 300), days_of(rule, 0, 300))

    def test_many_days(self):
        days = tuple(range(0, 400))
        rule = Changed(Days(days), days, days[::-1], tuple(zip(days, days[::-1])))
        for level in range(0, 11):
            rule = Changed(rule, days, days, tuple(zip(days, days)))
        self.assertEqual(rule_text(read_rule(rule_text(rule))), rule_text(rule))

    def test_wrong_texts_of_any_depth(self):
        for text in (
            "shifted 1 (" * 5000, "(" * 5000, ")" * 5000, "either (" * 3000 + "never" + ")" * 3000,
            "shifted 1 (" * 60 + "never" + ")" * 59, "shifted 1 (" * 60 + "never" + ")" * 61,
        ):
            check_refused(self, NoText, read_rule, text)


class OneSignOff(unittest.TestCase):
    """Texts with one sign more, less or other than told: refused, or another text that is written as told."""

    SIGNS = " ()-0123456789abcdelnorvwxyz\n\t~A"

    def near(self, text):
        for place in range(0, len(text) + 1):
            for sign in self.SIGNS:
                yield text[:place] + sign + text[place:]
                yield text[:place] + sign + text[place + 1:]
            yield text[:place] + text[place + 1:]

    def test_refused_or_written_as_told(self):
        for text in (
            "every 7 2026-03-01", "weekly 127 2026-03-01 10", "monthly -31 2026-03-01 2", "nth -5 6 2026-03-01 10",
            "yearly 12 31 2026-03-01 4", "days 2026-03-01 2026-03-02", "either (never) (days)",
            "within -5 70 (never)", "shifted -10 (never)", "changed (never) left 2026-03-01 more moved",
        ):
            taken = 0
            for other in self.near(text):
                try:
                    written = rule_text(read_rule(other))
                except NoText:
                    continue
                taken += 1
                # What was left out is added behind; nothing else is other than it was read.
                self.assertIn(written, (other, other + " 2000-01-01", other + " 2000-01-01 1", other + " 1"))
            self.assertGreater(taken, 0)

    def test_changed_days_are_all_read(self):
        for text in ("days 2026-03-01", "changed (never) left 2026-03-01 more moved"):
            for place in range(0, len(text)):
                check_refused(self, NoText, read_rule, text[:place] + text[place + 1:])
                check_refused(self, NoText, read_rule, text[:place] + "." + text[place:])
