"""Points [4.1], [4.2], [4.3] and [4.6]: spans and rows of them."""

import inspect
import itertools
import random
import unittest

from helper import HUGE, check_refused
from hourhouse import spans
from hourhouse.errors import NoSpan
from hourhouse.spans import both, cut, laid, meets, minus, taken

# All spans of few moments, and all rows of none, one or two of them.
FEW = [(begin, end) for begin in range(0, 4) for end in range(begin + 1, 5)]
ROWS = [[]] + [[span] for span in FEW] + [list(pair) for pair in itertools.product(FEW, repeat=2)]
NONE = ((0, 0), (5, 4), (0, -1), (-3, -3), (HUGE, HUGE), (HUGE, -HUGE), (1, -1))


def moments(row):
    """Each moment that a row takes, counted one by one."""
    return {moment for begin, end in row for moment in range(begin, end)}


def laid_of(taken_ones):
    """The laid spans of a set of moments."""
    found = []
    for moment in sorted(taken_ones):
        if found and found[-1][1] == moment:
            found[-1] = (found[-1][0], moment + 1)
        else:
            found.append((moment, moment + 1))
    return found


def random_row(chance, most=6):
    row = []
    for count in range(0, chance.randrange(0, most)):
        begin = chance.randrange(-20, 20)
        row.append((begin, begin + chance.choice((1, 1, 2, 3, 5, 12))))
    return row


class Rows(unittest.TestCase):
    def check_one(self, row):
        kept = list(row)
        self.assertEqual(laid(row), laid_of(moments(row)))
        self.assertEqual(taken(row), len(moments(row)))
        self.assertEqual(row, kept)

    def check_two(self, one, other):
        kept = (list(one), list(other))
        self.assertEqual(minus(one, other), laid_of(moments(one) - moments(other)))
        self.assertEqual(both(one, other), laid_of(moments(one) & moments(other)))
        self.assertEqual((one, other), kept)

    def check_cut(self, row, begin, end):
        kept = list(row)
        self.assertEqual(cut(row, begin, end), laid_of([at for at in moments(row) if begin <= at < end]))
        self.assertEqual(row, kept)

    def test_arguments(self):
        told = {
            "laid": "(row)", "minus": "(one, other)", "both": "(one, other)", "cut": "(row, begin, end)",
            "taken": "(row)",
        }
        for name, signature in told.items():
            self.assertEqual(str(inspect.signature(getattr(spans, name))), signature)

    def test_by_hand(self):
        row = [(5, 9), (0, 2), (8, 12), (2, 3)]
        self.assertEqual(laid(row), [(0, 3), (5, 12)])
        self.assertEqual(taken(row), 10)
        self.assertEqual(minus(row, [(1, 6), (7, 8), (11, 20)]), [(0, 1), (6, 7), (8, 11)])
        self.assertEqual(both(row, [(1, 6), (7, 8), (11, 20)]), [(1, 3), (5, 6), (7, 8), (11, 12)])
        self.assertEqual(cut(row, 2, 6), [(2, 3), (5, 6)])

    def test_of_none(self):
        self.assertEqual((laid([]), taken([]), cut([], 0, 9)), ([], 0, []))
        self.assertEqual((minus([], []), both([], [])), ([], []))
        self.assertEqual((minus([(1, 2)], []), minus([], [(1, 2)])), ([(1, 2)], []))
        self.assertEqual((both([(1, 2)], []), both([], [(1, 2)])), ([], []))

    def test_small_rows(self):
        for row in ROWS:
            self.check_one(row)
            for begin, end in itertools.product(range(-1, 6), repeat=2):
                self.check_cut(row, begin, end)
        for one, other in itertools.product(ROWS, repeat=2):
            self.check_two(one, other)

    def test_rows_at_random(self):
        chance = random.Random(13)
        for count in range(0, 4000):
            one = random_row(chance)
            other = random_row(chance)
            self.check_one(one + other)
            self.check_two(one, other)
            self.check_cut(one, chance.randrange(-25, 25), chance.randrange(-25, 30))

    def test_great_moments(self):
        row = [(HUGE, HUGE + 5), (-HUGE, -HUGE + 1), (-5, HUGE)]
        self.assertEqual(laid(row), [(-HUGE, -HUGE + 1), (-5, HUGE + 5)])
        self.assertEqual(taken(row), HUGE + 11)
        self.assertEqual(cut(row, -HUGE, HUGE), [(-HUGE, -HUGE + 1), (-5, HUGE)])
        self.assertEqual(minus([(-HUGE, HUGE)], [(0, 1)]), [(-HUGE, 0), (1, HUGE)])
        self.assertEqual(both([(-HUGE, HUGE)], [(-1, 1)]), [(-1, 1)])

    def test_cut_of_nothing(self):
        for begin, end in ((5, 5), (6, 5), (HUGE, -HUGE), (0, 0)):
            self.assertEqual(cut([(0, 10)], begin, end), [])

    def test_meets(self):
        for span, begin, end in itertools.product(FEW, range(-1, 6), range(-1, 6)):
            self.assertIs(meets(span, begin, end), bool(moments([span]) & set(range(begin, end))))

    def test_lists_told_are_the_askers_own(self):
        row = [(1, 4), (6, 9)]
        for deed in (
            lambda: laid(row), lambda: minus(row, []), lambda: both(row, row), lambda: cut(row, 0, 20),
        ):
            told = deed()
            self.assertIsNot(told, row)
            told.append((0, 1))
            told.reverse()
            self.assertEqual(row, [(1, 4), (6, 9)])
            self.assertEqual(deed(), [(1, 4), (6, 9)])
        for told in (laid([(1, 2)]), minus([(1, 2)], []), both([(1, 2)], [(0, 5)]), cut([(1, 2)], 0, 5)):
            self.assertEqual(told, [(1, 2)])
            self.assertIs(type(told), list)
            self.assertIs(type(told[0]), tuple)


class Refusals(unittest.TestCase):
    def test_a_span_that_is_none(self):
        for none in NONE:
            for row in ([none], [(1, 5), none], [none, (1, 5)], [(1, 5), none, (2, 9)], [(-9, 9), none]):
                kept = list(row)
                for deed, arguments in (
                    (laid, (row,)), (taken, (row,)), (cut, (row, 0, 9)), (cut, (row, 100, 200)), (cut, (row, 5, 5)),
                    (cut, (row, 9, 0)), (minus, (row, [])), (minus, ([], row)), (minus, (row, [(-50, 50)])),
                    (minus, ([(100, 101)], row)), (both, (row, [])), (both, ([], row)), (both, (row, [(100, 101)])),
                    (both, ([(100, 101)], row)), (minus, (row, row)), (both, (row, row)),
                ):
                    check_refused(self, NoSpan, deed, *arguments)
                self.assertEqual(row, kept)

    def test_the_shortest_span_is_taken(self):
        for begin in (-HUGE, -1, 0, HUGE):
            self.assertEqual(laid([(begin, begin + 1)]), [(begin, begin + 1)])
