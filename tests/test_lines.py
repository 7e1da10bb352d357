"""[A3], [C1] and [C3] of the document: lines and standings."""

import itertools
import unittest

from baylines.books import all_books, book_error
from baylines.lines import empty, line_error, standing_error
from tests.drawn import chance, draw_line, draw_standing, full_book
from tests.examples import check
from tests.values import check_returns, nested, no_kinds, no_pairs, no_tuples

EXAMPLES = """
    >>> from baylines.lines import empty, line_error, standing_error
    >>> ranks, slow = ((0, 1), (0, 2), (1, 2)), ((0, 1), (0, 2))
    >>> [line_error(3, value) for value in ((), (ranks, slow), ((),) * 6, ((),) * 7, [ranks], (ranks, ((1, 3),)), (ranks, None))]
    [None, None, None, 'form', 'form', ('bay', 1, ('pair', 0)), ('bay', 1, 'form')]
    >>> [standing_error(3, (ranks, slow), value) for value in ((None, None), (2, None), (2, 2), (2,), [2, 2], (None, 2), (True, None), (3, 1))]
    [None, None, None, 'form', 'form', ('gap', 1), ('held', 0), ('held', 0)]
    >>> empty((ranks, slow)), empty(())
    ((None, None), ())
"""

RANKS, SLOW = ((0, 1), (0, 2), (1, 2)), ((0, 1), (0, 2))

# Values that are no book of three kinds, with what book_error tells of them.
NO_BOOKS = [
    (None, "form"), ([], "form"), ([(0, 1)], "form"), (0, "form"), ("a>b", "form"), (True, "form"),
    ({(0, 1): True}, "form"), ((0, 1), ("pair", 0)), (((0, 1), (0, 3)), ("pair", 1)),
    (((0, True),), ("pair", 0)), (((0, 2), (0, 1)), ("order", 1)), (((0, 1), (0, 1)), ("order", 1)),
    (((2, 2),), ("self", 2)), (((0, 1), (1, 2)), ("whom", 0, 1, 2)), (((0, 1), (1, 0)), ("whom", 0, 1, 0)),
]


def told_standing(n, many, value):
    """What standing_error has to tell of a tuple, by the document's words."""
    if len(value) != many:
        return "form"
    for place, item in enumerate(value):
        if item is not None and repr(item) not in [repr(kind) for kind in range(n)]:
            return ("held", place)
    for place, item in enumerate(value):
        if item is not None and None in value[:place]:
            return ("gap", place)
    return None


class Examples(unittest.TestCase):

    def test_as_they_stand_in_the_document(self):
        check(self, EXAMPLES)


class LineError(unittest.TestCase):

    def test_lines(self):
        for n in range(1, 9):
            for many in range(7):
                check_returns(self, None, line_error, n=n, value=((),) * many)
                check_returns(self, None, line_error, n=n, value=(full_book(n),) * many)
        check_returns(self, None, line_error, n=3, value=(RANKS, SLOW, (), RANKS, ((2, 0),), SLOW))

    def test_drawn_lines(self):
        draw = chance(41)
        for count in range(160):
            n = count % 8 + 1
            check_returns(self, None, line_error, n=n, value=draw_line(draw, n))

    def test_lines_of_each_two_books(self):
        for one, other in itertools.product(all_books(3), repeat=2):
            self.assertIsNone(line_error(3, (one, other)))

    def test_no_tuple(self):
        for n in (1, 3, 8):
            for value in no_tuples() + [[RANKS], [RANKS, SLOW]]:
                check_returns(self, "form", line_error, n=n, value=value)

    def test_six_bays_and_seven(self):
        for book in ((), ((0, 1),), RANKS):
            check_returns(self, None, line_error, n=3, value=(book,) * 6)
            for many in (7, 8, 60, 1000):
                check_returns(self, "form", line_error, n=3, value=(book,) * many)

    def test_form_is_told_ahead_of_a_bay(self):
        check_returns(self, "form", line_error, n=3, value=(None,) * 7)
        check_returns(self, "form", line_error, n=3, value=(((0, 0),),) + ((),) * 6)
        check_returns(self, ("bay", 0, "form"), line_error, n=3, value=(None,) * 6)

    def test_a_bay_that_is_no_book(self):
        for item, error in NO_BOOKS:
            self.assertEqual(book_error(3, item), error)
            for place in range(6):
                value = (RANKS,) * place + (item,) + (SLOW,) * (5 - place)
                check_returns(self, ("bay", place, error), line_error, n=3, value=value)

    def test_the_first_such_bay_is_told(self):
        for (one, error), (other, _) in itertools.product(NO_BOOKS, repeat=2):
            check_returns(self, ("bay", 1, error), line_error, n=3, value=(RANKS, one, (), other))

    def test_pairs_that_are_no_pairs(self):
        for n in (1, 2, 8):
            for item in no_pairs(n):
                check_returns(self, ("bay", 1, ("pair", 0)), line_error, n=n, value=((), (item,)))

    def test_any_values_as_bays(self):
        for item in no_tuples():
            check_returns(self, ("bay", 0, "form"), line_error, n=8, value=(item,))
        for depth in range(1, 20):
            error = ("pair", 0) if isinstance(nested(depth), tuple) else "form"
            check_returns(self, ("bay", 0, error), line_error, n=8, value=(nested(depth),))

    def test_the_kinds_of_n_alone(self):
        for n in range(1, 9):
            for most in range(1, 8):
                wanted = None if most < n else ("bay", 0, ("pair", 0))
                check_returns(self, wanted, line_error, n=n, value=(((0, most),),))

    def test_a_book_is_no_line(self):
        check_returns(self, ("bay", 0, ("pair", 0)), line_error, n=3, value=SLOW)

    def test_what_the_package_returned(self):
        check_returns(self, None, line_error, n=2, value=all_books(2))
        check_returns(self, "form", line_error, n=3, value=all_books(3))
        check_returns(self, None, line_error, n=3, value=all_books(3)[:6])
        check_returns(self, ("bay", 0, "form"), line_error, n=3, value=empty((RANKS, SLOW)))


class StandingError(unittest.TestCase):

    def check_told(self, n, line, value):
        wanted = told_standing(n, len(line), value)
        check_returns(self, wanted, standing_error, n=n, line=line, value=value)
        return wanted[0] if isinstance(wanted, tuple) else wanted

    def test_the_empty_standing_and_full_ones(self):
        for n in range(1, 9):
            for many in range(7):
                line = ((),) * many
                check_returns(self, None, standing_error, n=n, line=line, value=(None,) * many)
                for kind in range(n):
                    check_returns(self, None, standing_error, n=n, line=line, value=(kind,) * many)

    def test_the_line_without_bays(self):
        check_returns(self, None, standing_error, n=3, line=(), value=())
        check_returns(self, "form", standing_error, n=3, line=(), value=(None,))
        check_returns(self, "form", standing_error, n=3, line=(), value=(0,))

    def test_all_tuples_of_some_items(self):
        items = (None, 0, 1, 2, True, -1)
        told = {}
        for bays in range(4):
            line = (RANKS, SLOW, ())[:bays]
            for many in range(bays + 2):
                for value in itertools.product(items, repeat=many):
                    told[self.check_told(2, line, value)] = True
        self.assertEqual(set(told), {None, "form", "held", "gap"})

    def test_drawn_standings_with_a_fault(self):
        draw = chance(42)
        for count in range(300):
            n = count % 8 + 1
            line = draw_line(draw, n)
            value = draw_standing(draw, n, line)
            check_returns(self, None, standing_error, n=n, line=line, value=value)
            items = list(value)
            for _ in range(2):
                if items:
                    items[draw.randrange(len(items))] = draw.choice([None, 0, n, n - 1, False, "a"])
            self.check_told(n, line, tuple(items))

    def test_no_tuple(self):
        for line in ((), (RANKS,), (RANKS, SLOW)):
            for value in no_tuples() + [[2, 2], [None], [None, None]]:
                check_returns(self, "form", standing_error, n=3, line=line, value=value)

    def test_too_few_and_too_many_items(self):
        for many in range(7):
            line = (RANKS,) * many
            for items in (0, 1, 2, 3, 4, 5, 6, 7, 8, 4000):
                wanted = None if items == many else "form"
                check_returns(self, wanted, standing_error, n=3, line=line, value=(1,) * items)

    def test_an_item_that_is_no_kind(self):
        for n in (1, 3, 8):
            for item in [item for item in no_kinds(n) if item is not None]:
                for place in range(6):
                    value = (0,) * place + (item,) + (0,) * (5 - place)
                    check_returns(self, ("held", place), standing_error, n=n, line=((),) * 6, value=value)

    def test_form_then_held_then_gap(self):
        line = (RANKS, SLOW, ())
        check_returns(self, "form", standing_error, n=3, line=line, value=(None, 3))
        check_returns(self, "form", standing_error, n=3, line=line, value=(None, 2, 3, None))
        check_returns(self, ("held", 2), standing_error, n=3, line=line, value=(None, 2, 3))
        check_returns(self, ("held", 0), standing_error, n=3, line=line, value=(False, None, 0))
        check_returns(self, ("held", 1), standing_error, n=3, line=line, value=(None, 3, -1))

    def test_gaps(self):
        line = ((),) * 6
        check_returns(self, ("gap", 5), standing_error, n=3, line=line, value=(None,) * 5 + (0,))
        check_returns(self, ("gap", 1), standing_error, n=3, line=line, value=(None, 0, 1, None, 2, 0))
        check_returns(self, ("gap", 3), standing_error, n=3, line=line, value=(0, None, None, 0, None, 0))
        check_returns(self, None, standing_error, n=3, line=line, value=(0, 1, None, None, None, None))

    def test_also_standings_that_never_come(self):
        check_returns(self, None, standing_error, n=3, line=(RANKS, RANKS), value=(0, 2))


class Empty(unittest.TestCase):

    def test_a_none_for_each_bay(self):
        for many in range(7):
            check_returns(self, (None,) * many, empty, line=(SLOW,) * many)

    def test_it_is_a_standing(self):
        draw = chance(43)
        for count in range(80):
            n = count % 8 + 1
            line = draw_line(draw, n)
            self.assertIsNone(standing_error(n, line, empty(line)))


if __name__ == "__main__":
    unittest.main()
