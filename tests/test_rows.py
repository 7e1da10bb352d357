"""[A3], [A4], [A5] and [A7] of the document: kinds, rows and things."""

import itertools
import unittest

from baylines.errors import TooMany
from baylines.rows import ahead, is_rising, row_error, rows_of, same_things
from tests.examples import check
from tests.values import check_call, check_error, check_returns, nested, no_kinds, no_tuples

EXAMPLES = """
    >>> from baylines.rows import ahead, is_rising, row_error, rows_of, same_things
    >>> [row_error(3, value) for value in ((0, 2, 1), (), (0, 3), [0], (True,), (0, 1, "c"), (0,) * 61, None)]
    [None, None, ('thing', 1), 'form', ('thing', 0), ('thing', 2), 'form', 'form']
    >>> same_things((0, 1, 0), (1, 0, 0)), same_things((0, 1), (0, 1, 1)), same_things((), ())
    (True, False, True)
    >>> [ahead((2, 0, 1, 0), place) for place in (0, 1, 2, 3)], is_rising((0, 0, 1)), is_rising((1, 0)), is_rising(())
    ([0, 1, 1, 2], True, False, True)
    >>> rows_of(2, 2), rows_of(3, 0), len(rows_of(8, 4)), rows_of(1, 5)
    (((0, 0), (0, 1), (1, 0), (1, 1)), ((),), 4096, ((0, 0, 0, 0, 0),))
    >>> rows_of(8, 5)
    raises TooMany(4096)
"""

# Of n kinds these are the longest rows of which there are at most 4096.
LONGEST = {2: 12, 3: 7, 4: 6, 5: 5, 6: 4, 7: 4, 8: 4}


def short_rows(n, most):
    """All rows of n with at most so many things, made without the package."""
    return [row for many in range(most + 1) for row in itertools.product(range(n), repeat=many)]


class Examples(unittest.TestCase):

    def test_as_they_stand_in_the_document(self):
        check(self, EXAMPLES)


class RowError(unittest.TestCase):

    def test_rows(self):
        for n in range(1, 9):
            for many in (0, 1, 2, 59, 60):
                row = tuple([place % n for place in range(many)])
                check_returns(self, None, row_error, n=n, value=row)

    def test_each_kind_alone(self):
        for n in range(1, 9):
            for item in range(-2, 11):
                wanted = None if item in range(n) else ("thing", 0)
                check_returns(self, wanted, row_error, n=n, value=(item,))

    def test_no_tuple(self):
        for n in (1, 3, 8):
            for value in no_tuples():
                check_returns(self, "form", row_error, n=n, value=value)

    def test_sixty_things_and_more(self):
        for n in (1, 8):
            check_returns(self, None, row_error, n=n, value=(0,) * 60)
            for many in (61, 62, 4000):
                check_returns(self, "form", row_error, n=n, value=(0,) * many)

    def test_form_is_told_ahead_of_a_thing(self):
        check_returns(self, "form", row_error, n=2, value=(9,) * 61)
        check_returns(self, "form", row_error, n=2, value=("a",) + (0,) * 60)
        check_returns(self, ("thing", 0), row_error, n=2, value=(9,) * 60)

    def test_a_thing_that_is_no_kind(self):
        for n in (1, 2, 7, 8):
            for item in no_kinds(n):
                for place in (0, 1, 30, 59):
                    value = (0,) * place + (item,) + (0,) * (59 - place)
                    check_returns(self, ("thing", place), row_error, n=n, value=value)

    def test_the_first_such_thing_is_told(self):
        check_returns(self, ("thing", 1), row_error, n=3, value=(0, None, 3, -1))
        check_returns(self, ("thing", 2), row_error, n=3, value=(2, 1, [], True))
        check_returns(self, ("thing", 0), row_error, n=1, value=(1, 0, 1))

    def test_true_and_false_are_no_kinds(self):
        check_returns(self, ("thing", 0), row_error, n=8, value=(False,))
        check_returns(self, ("thing", 1), row_error, n=8, value=(1, True))

    def test_nested_values(self):
        check_returns(self, None, row_error, n=1, value=nested(1))
        for depth in range(2, 21):
            value = nested(depth)
            wanted = ("thing", 0) if isinstance(value, tuple) else "form"
            check_returns(self, wanted, row_error, n=1, value=value)
            check_returns(self, ("thing", 1), row_error, n=1, value=(0, value))

    def test_what_the_package_returned(self):
        check_returns(self, "form", row_error, n=8, value=rows_of(8, 4))
        check_returns(self, ("thing", 0), row_error, n=2, value=rows_of(2, 2))
        check_returns(self, ("thing", 0), row_error, n=3, value=row_error(3, (5,)))


class SameThings(unittest.TestCase):

    def test_against_counting(self):
        rows = short_rows(3, 3)
        for one in rows:
            for other in rows:
                wanted = all([one.count(kind) == other.count(kind) for kind in range(3)])
                self.assertIs(same_things(one, other), wanted, (one, other))

    def test_each_way_of_calling(self):
        check_returns(self, True, same_things, one=(0, 1, 0), other=(1, 0, 0))
        check_returns(self, False, same_things, one=(0, 0, 1), other=(1, 1, 0))
        check_returns(self, False, same_things, one=(), other=(0,))
        check_returns(self, False, same_things, one=(0,), other=())

    def test_sixty_things(self):
        row = tuple([place % 8 for place in range(60)])
        check_returns(self, True, same_things, one=row, other=row[::-1])
        check_returns(self, False, same_things, one=row, other=row[:-1])
        check_returns(self, False, same_things, one=row, other=row[:-1] + (7,))


class Ahead(unittest.TestCase):

    def test_against_the_words_of_the_document(self):
        for row in short_rows(3, 5):
            for place in range(len(row)):
                wanted = 0
                for other in range(len(row)):
                    if other < place and row[other] > row[place]:
                        wanted += 1
                self.assertEqual(ahead(row, place), wanted, (row, place))

    def test_each_way_of_calling(self):
        check_returns(self, 2, ahead, row=(2, 0, 1, 0), place=3)
        check_returns(self, 0, ahead, row=(0,), place=0)
        check_returns(self, 3, ahead, row=(7, 7, 7, 6, 7), place=3)

    def test_one_kind_is_not_greater(self):
        for place in (0, 1, 59):
            check_returns(self, 0, ahead, row=(3,) * 60, place=place)

    def test_what_stands_behind_does_not_count(self):
        check_returns(self, 0, ahead, row=(0,) + (7,) * 59, place=0)

    def test_sixty_things(self):
        check_returns(self, 59, ahead, row=(1,) * 59 + (0,), place=59)


class IsRising(unittest.TestCase):

    def test_against_the_words_of_the_document(self):
        for row in short_rows(3, 5):
            pairs = itertools.combinations(row, 2)
            wanted = not any([behind < first for first, behind in pairs])
            self.assertIs(is_rising(row), wanted, row)

    def test_each_way_of_calling(self):
        check_returns(self, True, is_rising, row=())
        check_returns(self, True, is_rising, row=(7,))
        check_returns(self, True, is_rising, row=(0, 0, 3, 7, 7))
        check_returns(self, False, is_rising, row=(0, 2, 1))

    def test_sixty_things(self):
        check_returns(self, True, is_rising, row=(2,) * 60)
        check_returns(self, False, is_rising, row=(1,) * 59 + (0,))
        check_returns(self, False, is_rising, row=(1,) + (0,) * 59)


class RowsOf(unittest.TestCase):

    def test_against_all_there_are(self):
        for n in range(1, 9):
            for many in range(0, 5):
                wanted = tuple(itertools.product(range(n), repeat=many))
                self.assertEqual(rows_of(n, many), wanted, (n, many))

    def test_a_tuple_of_tuples_of_integers(self):
        check_returns(self, ((0,), (1,), (2,)), rows_of, n=3, many=1)
        check_returns(self, ((0, 0), (0, 1), (1, 0), (1, 1)), rows_of, n=2, many=2)
        check_returns(self, ((),), rows_of, n=8, many=0)

    def test_ascending_each_once_and_each_a_row(self):
        for n, many in LONGEST.items():
            rows = rows_of(n, many)
            self.assertEqual(len(rows), n ** many)
            self.assertEqual(list(rows), sorted(set(rows)))
            self.assertEqual({row_error(n, row) for row in rows}, {None})
            self.assertEqual({len(row) for row in rows}, {many})

    def test_just_4096_rows(self):
        for n, many in ((2, 12), (4, 6), (8, 4)):
            self.assertEqual(len(rows_of(n, many)), 4096)

    def test_more_than_4096_rows(self):
        for n, many in LONGEST.items():
            self.assertEqual(check_call(self, rows_of, n=n, many=many)[0], "returned")
            for more in (many + 1, many + 2, 60):
                check_error(self, TooMany(4096), rows_of, n=n, many=more)

    def test_of_one_kind_there_is_one_row(self):
        for many in (0, 1, 59, 60):
            check_returns(self, ((0,) * many,), rows_of, n=1, many=many)


class WhatHolds(unittest.TestCase):

    def test_rising_is_that_nothing_greater_stands_ahead(self):
        for row in short_rows(4, 5):
            none = all([ahead(row, place) == 0 for place in range(len(row))])
            self.assertIs(is_rising(row), none, row)

    def test_of_the_rows_with_the_same_things_just_one_rises(self):
        for row in short_rows(3, 4):
            rising = [one for one in rows_of(3, len(row)) if same_things(one, row) and is_rising(one)]
            self.assertEqual(rising, [tuple(sorted(row))])


if __name__ == "__main__":
    unittest.main()
