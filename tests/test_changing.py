"""[A2](a), [A3], [E1], [E2], [E5] and [E6] of the document: which bays may change places."""

import itertools
import unittest

from baylines.books import only
from baylines.changing import blocked, parting
from tests.bays import told_blocked, told_whole
from tests.drawn import books_of, chance, draw_book, draw_row, drawn_books, full_book
from tests.examples import check
from tests.values import check_returns

EXAMPLES = """
    >>> from baylines.changing import blocked, parting
    >>> ranks, slow, mid = ((0, 1), (0, 2), (1, 2)), ((0, 1), (0, 2)), ((1, 2),)
    >>> blocked(3, ranks, slow), blocked(3, ranks, mid), blocked(3, ranks, ranks), blocked(3, ranks, ()), blocked(4, ((0, 1),), ((2, 3),))
    (None, None, None, None, None)
    >>> blocked(3, slow, mid), blocked(3, mid, slow), blocked(4, ((0, 1),), ((2, 1),)), blocked(3, ((0, 1),), slow), blocked(3, ranks, ((1, 0),))
    (('common', 0, 1), ('common', 1, 0), ('common', 0, 2), ('unlike', 0), ('unlike', 1))
    >>> parting(3, slow, mid), parting(4, ((0, 1),), ((2, 1),)), parting(3, ((0, 1),), slow), parting(3, ranks, ((1, 0),)), parting(3, ranks, slow)
    ((2, 0, 1), (1, 0, 2), (1, 2, 0), (0, 1), None)
    >>> from baylines.running import whole
    >>> whole((slow, mid), (2, 0, 1)), whole((mid, slow), (2, 0, 1))
    ((0, 1, 2), (0, 2, 1))
"""


def parts(one, other, row):
    """Return whether both orders make unlike rows of row."""
    return told_whole((one, other), row) != told_whole((other, one), row)


def told_parting(n, one, other, most=3):
    """Return the first shortest row of at most so many things that parts both orders, or None."""
    for many in range(most + 1):
        for row in itertools.product(range(n), repeat=many):
            if parts(one, other, row):
                return row
    return None


class Examples(unittest.TestCase):

    def test_as_they_stand_in_the_document(self):
        check(self, EXAMPLES)


class Blocked(unittest.TestCase):

    def test_all_pairs_of_books_of_up_to_three_kinds(self):
        for n in (1, 2, 3):
            for one, other in itertools.product(books_of(n), repeat=2):
                check_returns(self, told_blocked(n, one, other), blocked, n=n, one=one, other=other)

    def test_pairs_of_books_of_four_kinds(self):
        for one in books_of(4)[::5]:
            for other in books_of(4)[::3]:
                self.assertEqual(blocked(4, one, other), told_blocked(4, one, other), (one, other))

    def test_drawn_books(self):
        met = {}
        for _, n, one, other in drawn_books(101, 800):
            wanted = told_blocked(n, one, other)
            check_returns(self, wanted, blocked, n=n, one=one, other=other)
            word = wanted and wanted[0]
            met[word] = met.get(word, 0) + 1
        self.assertEqual(sorted(met, key=str), [None, "common", "unlike"])
        self.assertGreater(min(met.values()), 50)

    def test_one_kind(self):
        check_returns(self, None, blocked, n=1, one=(), other=())

    def test_the_least_kind_that_is_unlike(self):
        one, other = ((0, 7), (2, 5), (2, 7), (4, 5)), ((0, 7), (2, 7), (4, 6))
        check_returns(self, ("unlike", 2), blocked, n=8, one=one, other=other)
        check_returns(self, ("unlike", 7), blocked, n=8, one=((7, 0),), other=((7, 1),))

    def test_unlike_is_told_ahead_of_common(self):
        check_returns(self, ("unlike", 3), blocked, n=5, one=((0, 1), (3, 4)), other=((2, 1), (3, 1)))

    def test_what_passes_alike_is_not_told(self):
        check_returns(self, None, blocked, n=4, one=((0, 3), (1, 3)), other=((0, 3),))
        check_returns(self, None, blocked, n=4, one=((0, 3), (1, 2)), other=((0, 3),))

    def test_each_way_of_having_something_in_common(self):
        check_returns(self, ("common", 0, 1), blocked, n=3, one=((0, 1),), other=((1, 2),))
        check_returns(self, ("common", 1, 0), blocked, n=3, one=((1, 2),), other=((0, 1),))
        check_returns(self, ("common", 0, 1), blocked, n=2, one=((0, 1),), other=((1, 0),))
        check_returns(self, ("common", 0, 1), blocked, n=3, one=((0, 2),), other=((1, 2),))
        check_returns(self, None, blocked, n=4, one=((0, 1),), other=((2, 3),))

    def test_the_least_pair_that_has_something_in_common(self):
        one, other = ((0, 1), (4, 5), (6, 5)), ((2, 3), (2, 5), (3, 5), (7, 5))
        check_returns(self, ("common", 4, 2), blocked, n=8, one=one, other=other)
        check_returns(self, ("common", 2, 4), blocked, n=8, one=other, other=one)
        check_returns(self, ("common", 6, 7), blocked, n=8, one=((6, 5),), other=((7, 5),))


class Parting(unittest.TestCase):

    def test_all_pairs_of_books_of_up_to_three_kinds(self):
        for n in (1, 2, 3):
            for one, other in itertools.product(books_of(n), repeat=2):
                check_returns(self, told_parting(n, one, other), parting, n=n, one=one, other=other)

    def test_drawn_books(self):
        for _, n, one, other in drawn_books(102, 240):
            check_returns(self, told_parting(n, one, other), parting, n=n, one=one, other=other)

    def test_no_row(self):
        check_returns(self, None, parting, n=1, one=(), other=())
        check_returns(self, None, parting, n=8, one=full_book(8), other=())
        check_returns(self, None, parting, n=8, one=full_book(8), other=full_book(8))

    def test_the_last_kinds(self):
        check_returns(self, (6, 7), parting, n=8, one=((6, 7),), other=((7, 6),))
        check_returns(self, (7, 5, 6), parting, n=8, one=((5, 7),), other=((6, 7),))


class WhatHolds(unittest.TestCase):

    def test_blocked_exactly_if_a_row_of_three_things_parts(self):
        free = 0
        for one, other in itertools.product(books_of(3), repeat=2):
            row = told_parting(3, one, other)
            self.assertEqual(blocked(3, one, other) is None, row is None, (one, other))
            free += row is None
        self.assertGreater(free, 19 * 2 - 1)

    def test_blocked_exactly_if_parting_tells_a_row_of_two_or_three_things(self):
        for _, n, one, other in drawn_books(103, 400):
            row = parting(n, one, other)
            self.assertEqual(blocked(n, one, other) is None, row is None)
            if row is not None:
                self.assertIn(len(row), (2, 3))
                self.assertTrue(parts(one, other, row))

    def test_what_may_change_does_the_same_with_all_rows_of_six_things(self):
        for one, other in itertools.combinations(books_of(3), 2):
            if blocked(3, one, other) is None:
                for row in itertools.product(range(3), repeat=6):
                    self.assertFalse(parts(one, other, row), (one, other, row))

    def test_what_may_change_does_the_same_with_long_rows(self):
        many = 0
        for draw, n, one, other in drawn_books(104, 800):
            if blocked(n, one, other) is None:
                row = draw_row(draw, n)
                self.assertFalse(parts(one, other, row), (one, other, row))
                many += one != other
        self.assertGreater(many, 100)

    def test_blocked_either_way_or_not_at_all(self):
        for _, n, one, other in drawn_books(105, 400):
            self.assertEqual(blocked(n, one, other) is None, blocked(n, other, one) is None)

    def test_a_book_is_never_blocked_with_itself_with_none_or_with_a_part(self):
        draw = chance(106)
        for count in range(300):
            n = count % 8 + 1
            book = draw_book(draw, n)
            part = only(book, tuple([x for x in range(n) if draw.random() < 0.5]))
            for other in (book, (), part):
                check_returns(self, None, blocked, n=n, one=book, other=other)
                check_returns(self, None, blocked, n=n, one=other, other=book)


if __name__ == "__main__":
    unittest.main()
