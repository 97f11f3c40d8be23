"""Points [4.1], [4.4], [4.5] and [4.6]: crowds, and what is free of many."""

import inspect
import itertools
import random
import unittest

from helper import HUGE, check_refused
from hourhouse import crowds
from hourhouse.crowds import crowd, first_free, free
from hourhouse.errors import NoSpan
from test_spans import NONE, ROWS, laid_of, moments, random_row


def plain_crowd(rows, begin, end):
    """The crowd by a count moment by moment."""
    taken = [moments(row) for row in rows]
    found = []
    for moment in range(begin, end):
        number = len([row for row in taken if moment in row])
        if found and found[-1][2] == number:
            found[-1] = (found[-1][0], moment + 1, number)
        else:
            found.append((moment, moment + 1, number))
    return found


def plain_free(rows, begin, end):
    """The moments that no row takes."""
    taken = [moments(row) for row in rows]
    return [moment for moment in range(begin, end) if not any(moment in row for row in taken)]


class Crowds(unittest.TestCase):
    def check(self, rows, begin, end):
        kept = [list(row) for row in rows]
        self.assertEqual(crowd(rows, begin, end), plain_crowd(rows, begin, end))
        moments_free = plain_free(rows, begin, end)
        spans = laid_of(moments_free)
        self.assertEqual(free(rows, begin, end), spans)
        for least in (1, 2, 3, 5, 50):
            long = [span for span in spans if span[1] - span[0] >= least]
            self.assertEqual(free(rows, begin, end, least), long)
            starts = [
                moment for moment in range(begin, end)
                if all(moment + more in moments_free for more in range(0, least))]
            self.assertEqual(first_free(rows, begin, end, least), starts[0] if starts else None)
        self.assertEqual(rows, kept)

    def test_arguments_and_defaults(self):
        self.assertEqual(str(inspect.signature(crowds.crowd)), "(rows, begin, end)")
        self.assertEqual(str(inspect.signature(crowds.free)), "(rows, begin, end, least=1)")
        self.assertEqual(str(inspect.signature(crowds.first_free)), "(rows, begin, end, many=1)")

    def test_by_hand(self):
        rows = [[(0, 10), (20, 30)], [(5, 15)], [(5, 8), (8, 10)]]
        self.assertEqual(
            crowd(rows, 0, 40), [(0, 5, 1), (5, 10, 3), (10, 15, 1), (15, 20, 0), (20, 30, 1), (30, 40, 0)])
        self.assertEqual(free(rows, 0, 40), [(15, 20), (30, 40)])
        self.assertEqual(free(rows, 0, 40, 6), [(30, 40)])
        self.assertEqual(first_free(rows, 0, 40), 15)
        self.assertEqual(first_free(rows, 0, 40, 6), 30)
        self.assertEqual(first_free(rows, 17, 40), 17)
        self.assertIsNone(first_free(rows, 0, 35, 6))

    def test_one_row_ends_as_another_begins(self):
        self.assertEqual(crowd([[(0, 5)], [(5, 9)]], 0, 9), [(0, 9, 1)])
        self.assertEqual(crowd([[(0, 5)], [(5, 9)], [(2, 7)]], 0, 9), [(0, 2, 1), (2, 7, 2), (7, 9, 1)])

    def test_a_row_counts_once(self):
        self.assertEqual(crowd([[(0, 5), (0, 5), (3, 8)]], 0, 9), [(0, 8, 1), (8, 9, 0)])

    def test_of_none(self):
        for rows in ([], [[]], [[], []]):
            self.assertEqual(crowd(rows, -3, 9), [(-3, 9, 0)])
            self.assertEqual(free(rows, -3, 9), [(-3, 9)])
            self.assertEqual(free(rows, -3, 9, 12), [(-3, 9)])
            self.assertEqual(free(rows, -3, 9, 13), [])
            self.assertEqual(first_free(rows, -3, 9), -3)
            self.assertEqual(first_free(rows, -3, 9, 12), -3)
            self.assertIsNone(first_free(rows, -3, 9, 13))

    def test_where_end_is_not_above_begin(self):
        for rows in ([], [[]], [[(0, 10)]], [[(0, 2)], [(4, 9)]]):
            for begin, end in ((5, 5), (6, 5), (3, 3), (9, 0), (HUGE, -HUGE), (-1, -1)):
                self.assertEqual(crowd(rows, begin, end), [])
                self.assertEqual(free(rows, begin, end), [])
                self.assertIsNone(first_free(rows, begin, end))

    def test_at_and_just_beyond_a_spans_length(self):
        rows = [[(0, 4), (7, 9)], [(13, 20)]]
        for least, spans in ((1, [(4, 7), (9, 13)]), (3, [(4, 7), (9, 13)]), (4, [(9, 13)]), (5, [])):
            self.assertEqual(free(rows, 0, 20, least), spans)
            self.assertEqual(first_free(rows, 0, 20, least), spans[0][0] if spans else None)
        self.assertEqual(first_free(rows, 5, 20, 2), 5)
        self.assertEqual(first_free(rows, 5, 20, 3), 9)
        self.assertEqual(first_free(rows, 10, 13, 3), 10)
        self.assertIsNone(first_free(rows, 10, 12, 3))

    def test_small_rows(self):
        chance = random.Random(14)
        for row in ROWS:
            self.check([row], -1, 6)
            self.check([row], 1, 3)
        for pair in itertools.product(ROWS, repeat=2):
            if chance.randrange(0, 4) == 0:
                self.check(list(pair), chance.randrange(-1, 4), chance.randrange(1, 6))

    def test_rows_at_random(self):
        chance = random.Random(15)
        for count in range(0, 1500):
            rows = [random_row(chance) for many in range(0, chance.randrange(0, 6))]
            self.check(rows, chance.randrange(-25, 15), chance.randrange(-15, 40))

    def test_great_moments(self):
        rows = [[(-HUGE, 0)], [(-5, HUGE)]]
        self.assertEqual(
            crowd(rows, -HUGE - 1, HUGE + 2),
            [(-HUGE - 1, -HUGE, 0), (-HUGE, -5, 1), (-5, 0, 2), (0, HUGE, 1), (HUGE, HUGE + 2, 0)])
        self.assertEqual(free(rows, -HUGE - 1, HUGE + 2), [(-HUGE - 1, -HUGE), (HUGE, HUGE + 2)])
        self.assertEqual(first_free(rows, -HUGE, HUGE + 2, 2), HUGE)
        self.assertEqual(free([[]], -HUGE, HUGE, 2 * HUGE), [(-HUGE, HUGE)])
        self.assertIsNone(first_free([[]], -HUGE, HUGE, 2 * HUGE + 1))

    def test_lists_told_are_the_askers_own(self):
        rows = [[(1, 4)], []]
        for deed in (lambda: crowd(rows, 0, 9), lambda: free(rows, 0, 9)):
            told = deed()
            kept = list(told)
            told.clear()
            self.assertEqual(deed(), kept)
        self.assertEqual(rows, [[(1, 4)], []])


class Refusals(unittest.TestCase):
    def test_a_span_that_is_none(self):
        for none in NONE:
            for rows in (
                [[none]], [[], [none]], [[(0, 50)], [none]], [[(0, 50), none], []], [[none, (0, 50)], [(1, 2)]],
                [[(100, 200), none]],
            ):
                kept = [list(row) for row in rows]
                for begin, end in ((0, 50), (1000, 2000), (-9, 0), (5, 5), (7, 3)):
                    check_refused(self, NoSpan, crowd, rows, begin, end)
                    check_refused(self, NoSpan, free, rows, begin, end)
                    check_refused(self, NoSpan, free, rows, begin, end, 100)
                    check_refused(self, NoSpan, first_free, rows, begin, end)
                    check_refused(self, NoSpan, first_free, rows, begin, end, 100)
                self.assertEqual(rows, kept)
