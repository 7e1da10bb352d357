"""[A2](c), [A3], [G1], [G2], [G3] and [G5] of the document: lines that do the same."""

import itertools
import unittest

from baylines.errors import TooMany
from baylines.forms import calmest, lines_of
from baylines.sameness import bare, leaned, parted
from tests.bays import told_joints, told_whole
from tests.drawn import (
    JUST_4000, JUST_4001, books_of, chance, draw_fitting_line, draw_line, draw_row, drawn_lines, full_book,
)
from tests.examples import check
from tests.values import check_error, check_returns

EXAMPLES = """
    >>> from baylines.sameness import bare, leaned, parted
    >>> quick, idle, first, second = ((0, 1),), (), ((0, 1),), ((1, 2),)
    >>> bare((idle, quick, idle)), bare((idle,)), bare(())
    ((((0, 1),),), (), ())
    >>> parted(3, (first, second), (second, first)), parted(2, (quick,), ()), parted(2, (quick,), (quick, quick)), parted(3, (((0, 1), (0, 2), (1, 2)),), (first,))
    ((2, 1, 0), (1, 0), (1, 1, 0), (2, 0))
    >>> from baylines.running import whole
    >>> whole((first, second), (2, 1, 0)), whole((second, first), (2, 1, 0))
    ((2, 0, 1), (1, 2, 0))
    >>> parted(2, (quick, idle), (idle, quick)), parted(2, (quick,), (idle, quick, idle)), parted(3, (second, first, second), (second, second, first))
    (None, None, None)
"""

QUICK, SECOND = ((0, 1),), ((1, 2),)


def first_unlike(n, one, other, most):
    """Return the first shortest row of at most so many things of which both make unlike rows, or None."""
    for many in range(most + 1):
        for row in itertools.product(range(n), repeat=many):
            if told_whole(one, row) != told_whole(other, row):
                return row
    return None


def row_or_word(n, one, other):
    """Return what parted returns, "too many" if it raises TooMany."""
    try:
        return parted(n, one, other)
    except TooMany:
        return "too many"


class Examples(unittest.TestCase):

    def test_as_they_stand_in_the_document(self):
        check(self, EXAMPLES)


class BareAndLeaned(unittest.TestCase):

    def test_bare_lines(self):
        check_returns(self, (), bare, line=())
        check_returns(self, (), bare, line=((),) * 6)
        check_returns(self, (QUICK,) * 6, bare, line=(QUICK,) * 6)
        check_returns(self, (SECOND, QUICK, SECOND), bare, line=((), SECOND, (), QUICK, SECOND, ()))

    def test_drawn_lines(self):
        draw = chance(161)
        for count in range(200):
            n = count % 8 + 1
            line = draw_fitting_line(draw, n)
            wanted = tuple(filter(None, line))
            check_returns(self, wanted, bare, line=line)
            check_returns(self, calmest(n, wanted), leaned, n=n, line=line)

    def test_leaned_lines(self):
        a, c, d = ((0, 1),), ((2, 3),), ((1, 2),)
        check_returns(self, (), leaned, n=4, line=())
        check_returns(self, (), leaned, n=1, line=((),) * 6)
        check_returns(self, (a, a, c, c), leaned, n=4, line=(c, a, (), c, (), a))
        check_returns(self, (a, d, a, c), leaned, n=4, line=((), a, d, c, a))
        check_returns(self, (full_book(8),), leaned, n=8, line=(full_book(8), ()))


class Parted(unittest.TestCase):

    def check(self, n, one, other):
        told = told_joints(n, one, other)
        if told is None:
            check_error(self, TooMany(4000), parted, n=n, one=one, other=other)
            return "too many"
        check_returns(self, told[1], parted, n=n, one=one, other=other)
        return told[1]

    def test_all_pairs_of_lines_of_few_bays_and_two_kinds(self):
        lines = [line for many in range(4) for line in itertools.product(books_of(2), repeat=many)]
        for one, other in itertools.product(lines, repeat=2):
            self.assertEqual(parted(2, one, other), told_joints(2, one, other)[1], (one, other))

    def test_pairs_of_lines_of_two_bays_and_three_kinds(self):
        lines = list(itertools.product(books_of(3)[::3] + [()], repeat=2))
        for one, other in itertools.combinations(lines, 2):
            self.check(3, one, other)

    def test_drawn_lines(self):
        met = {}
        for _, n, one, other in drawn_lines(162, 200, most=4):
            word = self.check(n, one, other)
            word = len(word) if isinstance(word, tuple) else word
            met[word] = met.get(word, 0) + 1
        for word in (None, 2, 3):
            self.assertGreater(met[word], 9, word)

    def test_drawn_lines_of_more_bays(self):
        for _, n, one, other in drawn_lines(163, 30, 4, 6):
            self.check(n, one, other)

    def test_lines_that_have_nothing_in_common(self):
        draw = chance(164)
        for count in range(60):
            n = count % 8 + 1
            self.check(n, draw_line(draw, n), draw_line(draw, n))

    def test_one_kind(self):
        for one, other in itertools.product(range(7), repeat=2):
            check_returns(self, None, parted, n=1, one=((),) * one, other=((),) * other)

    def test_lines_of_no_bay(self):
        check_returns(self, None, parted, n=8, one=(), other=())
        check_returns(self, None, parted, n=8, one=(), other=((),))
        check_returns(self, (7, 6), parted, n=8, one=(), other=(((6, 7),),))
        check_returns(self, (1, 0), parted, n=8, one=(full_book(8),), other=())

    def test_rows_that_need_more_things_the_more_bays_there_are(self):
        for many in range(6):
            one, other = (QUICK,) * many, (QUICK,) * (many + 1)
            row = (1,) * (many + 1) + (0,)
            check_returns(self, row, parted, n=2, one=one, other=other)
            check_returns(self, row, parted, n=2, one=other, other=one)

    def test_idle_bays_anywhere(self):
        for line in itertools.permutations((QUICK, SECOND, (), ())):
            check_returns(self, parted(3, bare(line), (QUICK, SECOND)), parted, n=3, one=line, other=(QUICK, SECOND))


class TooManyJointStandings(unittest.TestCase):

    def test_just_as_many_as_may_be(self):
        # A line and itself have as many joint standings as standings that come.
        n, line = JUST_4000
        check_returns(self, None, parted, n=n, one=line, other=line)
        one = (QUICK, QUICK, (), QUICK, ())
        self.assertEqual(len(told_joints(4, one, one + ((),))[0]), 4000)
        check_returns(self, None, parted, n=4, one=one, other=one + ((),))
        check_returns(self, None, parted, n=4, one=one + ((),), other=one)

    def test_one_more_than_may_be(self):
        for n, line in JUST_4001:
            self.assertIsNone(told_joints(n, line, line))
            self.assertEqual(len(told_joints(n, line, line, 4001)[0]), 4001)
            check_error(self, TooMany(4000), parted, n=n, one=line, other=line)

    def test_far_more_than_may_be(self):
        check_error(self, TooMany(4000), parted, n=8, one=((),) * 6, other=())
        one = (full_book(8),) + ((),) * 5
        check_error(self, TooMany(4000), parted, n=8, one=one, other=one[::-1])
        check_error(self, TooMany(4000), parted, n=4, one=((),) * 6, other=((),) * 6)

    def test_what_parts_ahead_of_that_is_told(self):
        check_returns(self, (1, 0), parted, n=8, one=(full_book(8),) + ((),) * 5, other=((),) * 6)
        check_returns(self, (1, 1, 0), parted, n=8, one=(full_book(8),) * 2 + ((),) * 4, other=(full_book(8),))

    def test_what_has_a_number_but_was_not_looked_at_is_not_told(self):
        a, b, c, d = ((4, 3),), ((4, 2), (4, 3)), ((4, 2),), ((0, 3), (4, 2), (4, 3))
        one, other = (d, a, b, c, a), (a, a, c, d, b, ())
        row = (2, 2, 2, 3, 4)
        self.assertNotEqual(told_whole(one, row), told_whole(other, row))
        self.assertIsNone(told_joints(5, one, other))
        found, told = told_joints(5, one, other, 10 ** 6)
        self.assertEqual(told, row)
        self.assertGreater(len(found), 4000)
        check_error(self, TooMany(4000), parted, n=5, one=one, other=other)
        check_error(self, TooMany(4000), parted, n=5, one=other, other=one)

    def test_drawn_lines_near_the_bound(self):
        met = set()
        for _, n, one, other in drawn_lines(165, 40, 8, 6):
            if len(one) > 3:
                told = told_joints(n, one, other)
                met.add("too many" if told is None else told[1] is None)
                if told is None:
                    check_error(self, TooMany(4000), parted, n=n, one=one, other=other)
                else:
                    self.assertEqual(parted(n, one, other), told[1])
        self.assertEqual(met, {"too many", True, False})


class WhatHolds(unittest.TestCase):

    def test_none_exactly_if_whole_of_both_is_the_same_for_all_short_rows(self):
        same = 0
        for _, n, one, other in drawn_lines(166, 150, 3, 3):
            row = parted(n, one, other)
            wanted = first_unlike(n, one, other, 5)
            self.assertEqual(row, wanted, (one, other))
            same += row is None and one != other
        self.assertGreater(same, 20)

    def test_the_row_is_the_first_shortest_one(self):
        for _, n, one, other in drawn_lines(167, 60, 8, 4):
            row = row_or_word(n, one, other)
            if isinstance(row, tuple):
                self.assertNotEqual(told_whole(one, row), told_whole(other, row))
                self.assertEqual(first_unlike(n, one, other, min(len(row), 3)), row if len(row) < 4 else None)

    def test_whole_of_long_rows_is_the_same_if_none_is_told(self):
        for draw, n, one, other in drawn_lines(168, 120, 8, 4):
            if row_or_word(n, one, other) is None:
                for _ in range(5):
                    row = draw_row(draw, n)
                    self.assertEqual(told_whole(one, row), told_whole(other, row), (one, other, row))

    def test_lines_may_be_exchanged(self):
        for _, n, one, other in drawn_lines(169, 120, 8, 4):
            self.assertEqual(row_or_word(n, one, other), row_or_word(n, other, one))

    def test_bare_leaned_and_changed_lines_do_the_same(self):
        for _, n, line, _ in drawn_lines(170, 80, 8, 3):
            lot = [line, bare(line), leaned(n, line)] + list(lines_of(n, line)[:6])
            for other in lot:
                check_returns(self, None, parted, n=n, one=line, other=other)
            self.assertIsNone(parted(n, lot[1], lot[2]))
        for _, n, line, _ in drawn_lines(171, 20, 3, 6):
            check_returns(self, None, parted, n=n, one=line, other=leaned(n, line))

    def test_lines_fall_into_lots(self):
        lines = [line for many in range(3) for line in itertools.product(books_of(2) + [SECOND], repeat=many)]
        same = {(a, b) for a in lines for b in lines if parted(3, a, b) is None}
        for a, b in same:
            for c in lines:
                if (b, c) in same:
                    self.assertIn((a, c), same)

    def test_lines_that_do_the_same_without_a_road(self):
        a, b = ((1, 2),), ((0, 1), (0, 2))
        check_returns(self, None, parted, n=3, one=(a, a, b, a), other=(a, b, a, a))
        self.assertNotIn((a, b, a, a), lines_of(3, (a, a, b, a)))
        self.assertNotIn((SECOND, SECOND, QUICK), lines_of(3, (SECOND, QUICK, SECOND)))

    def test_one_bay_that_does_what_two_do(self):
        one, other = (((0, 1), (2, 3)),), (((0, 1),), ((2, 3),))
        check_returns(self, None, parted, n=4, one=one, other=other)


if __name__ == "__main__":
    unittest.main()
