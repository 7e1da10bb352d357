"""[A2](a), [A3], [E3], [E4], [E5] and [E6] of the document: doubles."""

import itertools
import unittest

from baylines.changing import blocked
from baylines.doubles import changed, doubles, doubles_error
from baylines.errors import Blocked
from baylines.papers import kept
from baylines.tables import table
from tests.bays import coming, standings, told_blocked, told_changed, told_doubles, told_ending, told_run
from tests.drawn import books_of, draw_row, drawn_books, full_book
from tests.examples import check
from tests.values import check_error, check_returns, nested, no_kinds, no_tuples

EXAMPLES = """
    >>> ranks, slow, mid = ((0, 1), (0, 2), (1, 2)), ((0, 1), (0, 2)), ((1, 2),)
    >>> from baylines.doubles import doubles, doubles_error
    >>> doubles(2, ((0, 1),), ())
    ((None, None, None, None), (0, None, 0, None), (0, 0, 0, 0), (1, None, 1, None), (1, 0, 0, 1), (1, 0, 1, 0), (1, 1, 1, 1))
    >>> doubles_error(2, ((0, 1),), (), doubles(2, ((0, 1),), ())), doubles_error(3, ranks, slow, doubles(3, ranks, slow))
    (None, None)
    >>> [doubles_error(2, ((0, 1),), (), value) for value in ((), [], ((None, None, None, None),), ((None, None, None, None), (0, 1, 1, 0)), ((None, 1, None, None),))]
    ['begin', 'form', ('leads', 0, 0), ('leads', 0, 0), 'form']
    >>> doubles_error(3, slow, mid, ((None, None, None, None), (0, None, 0, None), (1, None, 1, None), (2, None, 2, None), (2, 0, 0, 2)))
    ('leads', 1, 0)
    >>> doubles(3, slow, mid)
    raises Blocked(('common', 0, 1))
    >>> from baylines.doubles import changed
    >>> changed(2, ((0, 1),), (), (1, 0)), changed(2, ((0, 1),), (), (0, 1)), changed(3, ranks, slow, (2, 0)), changed(3, ranks, slow, (1, 1))
    (((0, 1), (1, 0)), (), ((0, 2), (2, 0)), ((1, 1),))
    >>> changed(3, ranks, slow, (2, None)), changed(3, ranks, slow, (None, None)), changed(3, slow, ranks, (1, 2)), changed(3, slow, ranks, (0, 2))
    (((2, None),), ((None, None),), ((2, 1),), ((2, 0),))
    >>> changed(3, slow, mid, (1, 2))
    raises Blocked(('common', 0, 1))
"""

NOTHING = (None, None, None, None)
LOW = ((0, 1),)
RANKS, SLOW = ((0, 1), (0, 2), (1, 2)), ((0, 1), (0, 2))


def is_kind_or_none(n, value):
    return value is None or (type(value) is int and 0 <= value < n)


def is_double(n, value):
    """Return whether value is a tuple of two standings of two bays."""
    if type(value) is not tuple or len(value) != 4 or not all([is_kind_or_none(n, item) for item in value]):
        return False
    u, v, p, q = value
    return not (u is None and v is not None) and not (p is None and q is not None)


def led(one, other, double, x):
    """Return the double behind x, and what comes out of both orders."""
    behind, out = told_run((one, other), double[:2], (x,))
    other_behind, other_out = told_run((other, one), double[2:], (x,))
    return behind + other_behind, out, other_out


def told_doubles_error(n, one, other, value):
    """What doubles_error has to return."""
    if type(value) is not tuple or not all([is_double(n, item) for item in value]):
        return "form"
    if len(set(value)) != len(value):
        return "form"
    if NOTHING not in value:
        return "begin"
    for place, double in enumerate(value):
        found = [led(one, other, double, x) for x in range(n)]
        unlike = [x for x in range(n) if found[x][1] != found[x][2]]
        if unlike:
            return ("out", place, unlike[0])
        away = [x for x in range(n) if found[x][0] not in value]
        if away:
            return ("leads", place, away[0])
        if told_ending((one, other), double[:2]) != told_ending((other, one), double[2:]):
            return ("ending", place)
    return None


def reached(n, one, other):
    """Return the tuple of all doubles to which rows lead, of books that may be blocked."""
    found = [NOTHING]
    for double in found:
        for x in range(n):
            behind = led(one, other, double, x)[0]
            if behind not in found:
                found.append(behind)
    return tuple(found)


def all_doubles(n):
    """Return all tuples of two standings of two bays."""
    return [u + p for u, p in itertools.product(standings(n, 2), repeat=2)]


def draw_paper(draw, n, one, other):
    """Return a paper that may have something left out, told twice, moved or put in."""
    paper = list(reached(n, one, other))
    if blocked(n, one, other) is None and draw.random() < 0.7:
        paper = list(doubles(n, one, other))
    for _ in range(draw.choice((0, 1, 1, 2))):
        way, place = draw.randrange(4), draw.randrange(len(paper) or 1)
        if way == 0 and paper:
            del paper[place]
        elif way == 1 and paper:
            paper.insert(draw.randint(0, len(paper)), paper[place])
        elif way == 2:
            draw.shuffle(paper)
        else:
            paper.insert(place, draw.choice(all_doubles(min(n, 4))))
    return tuple(paper)


class Examples(unittest.TestCase):

    def test_as_they_stand_in_the_document(self):
        check(self, EXAMPLES)


class Doubles(unittest.TestCase):

    def check(self, n, one, other):
        why = told_blocked(n, one, other)
        if why is None:
            check_returns(self, told_doubles(n, one, other), doubles, n=n, one=one, other=other)
        else:
            check_error(self, Blocked(why), doubles, n=n, one=one, other=other)

    def test_all_pairs_of_books_of_up_to_three_kinds(self):
        for n in (1, 2, 3):
            for one, other in itertools.product(books_of(n), repeat=2):
                self.check(n, one, other)

    def test_drawn_books(self):
        for _, n, one, other in drawn_books(111, 160):
            self.check(n, one, other)

    def test_one_kind(self):
        wanted = (NOTHING, (0, None, 0, None), (0, 0, 0, 0))
        check_returns(self, wanted, doubles, n=1, one=(), other=())

    def test_books_that_are_alike_and_books_without_pairs(self):
        for n in range(1, 9):
            for one, other in (((), ()), (full_book(n), full_book(n))):
                found = doubles(n, one, other)
                self.assertEqual(found, told_doubles(n, one, other))
                for u, v, p, q in found:
                    self.assertEqual((u, v), (p, q))

    def test_turned_ones_of_both_sorts(self):
        self.assertIn((1, 0, 0, 1), doubles(2, LOW, ()))
        self.assertNotIn((0, 1, 1, 0), doubles(2, LOW, ()))
        self.assertIn((0, 1, 1, 0), doubles(2, (), LOW))
        self.assertNotIn((1, 0, 0, 1), doubles(2, (), LOW))

    def test_a_kind_that_passes_alike_makes_none_turned(self):
        # 0 passes 3 in both, 1 passes 2 in one alone: nobody passes 3 in one alone.
        found = doubles(4, ((0, 3), (1, 2)), ((0, 3),))
        self.assertIn((2, 1, 1, 2), found)
        self.assertNotIn((3, 0, 0, 3), found)
        self.assertNotIn((0, 3, 3, 0), found)
        # Where 1 passes 3, too, 0 may have passed it there.
        self.assertIn((3, 0, 0, 3), doubles(4, ((0, 3), (1, 3)), ((0, 3),)))


class DoublesError(unittest.TestCase):

    def check(self, n, one, other, value):
        wanted = told_doubles_error(n, one, other, value)
        check_returns(self, wanted, doubles_error, n=n, one=one, other=other, value=value)
        return wanted

    def test_it_takes_what_doubles_tells(self):
        for n in (1, 2, 3):
            for one, other in itertools.product(books_of(n), repeat=2):
                if blocked(n, one, other) is None:
                    self.assertIsNone(doubles_error(n, one, other, doubles(n, one, other)))
        for _, n, one, other in drawn_books(112, 120):
            if blocked(n, one, other) is None:
                check_returns(self, None, doubles_error, n=n, one=one, other=other, value=doubles(n, one, other))

    def test_it_takes_other_papers_and_other_orders(self):
        for _, n, one, other in drawn_books(113, 120):
            if blocked(n, one, other) is None:
                self.assertIsNone(doubles_error(n, one, other, tuple(reversed(doubles(n, one, other)))))
                self.assertIsNone(doubles_error(n, one, other, reached(n, one, other)))

    def test_there_is_no_paper_for_blocked_books(self):
        for one, other in itertools.product(books_of(3), repeat=2):
            if blocked(3, one, other) is not None:
                self.assertIsNotNone(self.check(3, one, other, reached(3, one, other)))

    def test_drawn_papers_with_something_wrong(self):
        met = set()
        for draw, n, one, other in drawn_books(114, 500):
            error = self.check(n, one, other, draw_paper(draw, n, one, other))
            met.add(error if error is None or isinstance(error, str) else error[0])
        self.assertEqual(met, {None, "form", "begin", "out", "leads", "ending"})

    def test_papers_of_two_doubles_of_any_sort(self):
        for one, other in ((LOW, ()), ((), LOW), (LOW, LOW), (((1, 0),), LOW)):
            for double in all_doubles(2):
                self.check(2, one, other, (NOTHING, double))
                self.check(2, one, other, (double, NOTHING))

    def test_papers_of_all_doubles_less_one(self):
        for left_out in range(len(doubles(3, RANKS, SLOW))):
            paper = doubles(3, RANKS, SLOW)
            self.check(3, RANKS, SLOW, paper[:left_out] + paper[left_out + 1:])

    def test_values_that_are_no_tuples(self):
        for value in no_tuples():
            check_returns(self, "form", doubles_error, n=2, one=LOW, other=(), value=value)

    def test_items_that_are_no_doubles(self):
        paper = doubles(2, LOW, ())
        items = no_kinds(2) + [
            (0, None, 0), (0, None, 0, None, None), (0, 0), ((0, None), (0, None)), [0, None, 0, None],
            list(NOTHING), {0: 0}, "0000", (None, 0, None, None), (None, None, None, 1), (None, 0, None, 0),
            (0, None, None, 0), (0, 0, 0, 2), (2, None, 2, None), (-1, 0, 0, -1), (True, None, True, None),
            (False, False, False, False), ("a", None, "a", None), ((0,), None, 0, None), ([], None, 0, None),
            ({}, None, None, None), (0, None, 0, nested(20)), (10 ** 399, 0, 0, 0),
        ]
        for item in items:
            for value in ((item,), paper + (item,), (item,) + paper, (NOTHING, item)):
                check_returns(self, "form", doubles_error, n=2, one=LOW, other=(), value=value)

    def test_true_is_not_one(self):
        paper = doubles(2, LOW, ())
        for place, double in enumerate(paper):
            for at, item in enumerate(double):
                if item is not None:
                    other = double[:at] + (bool(item),) + double[at + 1:]
                    value = paper[:place] + (other,) + paper[place + 1:]
                    check_returns(self, "form", doubles_error, n=2, one=LOW, other=(), value=value)

    def test_doubles_told_twice(self):
        paper = doubles(2, LOW, ())
        for double in paper:
            check_returns(self, "form", doubles_error, n=2, one=LOW, other=(), value=paper + (double,))
            check_returns(self, "form", doubles_error, n=2, one=LOW, other=(), value=(double, double))

    def test_what_the_package_returned_elsewhere(self):
        others = [
            table(2, (LOW,)), table(3, ((),) * 6), kept(2, (LOW,), (LOW,)), kept(3, ((),), ()),
            doubles(3, RANKS, SLOW), (doubles(2, LOW, ()),), list(doubles(2, LOW, ())),
        ]
        for value in others:
            check_returns(self, "form", doubles_error, n=2, one=LOW, other=(), value=value)

    def test_form_is_told_ahead_of_all(self):
        value = ((0, 1, 1, 0), (0, 0, 0, 2))
        check_returns(self, "form", doubles_error, n=2, one=LOW, other=(), value=value)

    def test_begin_is_told_ahead_of_what_items_do(self):
        check_returns(self, "begin", doubles_error, n=2, one=LOW, other=(), value=((0, 1, 1, 0),))
        check_returns(self, "begin", doubles_error, n=2, one=LOW, other=(), value=doubles(2, LOW, ())[1:])

    def test_of_one_item_out_leads_ending(self):
        double = (0, 1, 1, 0)
        self.assertEqual([led((), (), double, x)[1:] for x in (0, 1)], [((1,), (0,)), ((1,), (0,))])
        check_returns(self, ("out", 0, 0), doubles_error, n=2, one=(), other=(), value=(double, NOTHING))
        # By 0 this one leads away, by 1 unlike things come out.
        double = (1, 0, 1, 0)
        found = [led(LOW, ((1, 0),), double, x) for x in (0, 1)]
        self.assertEqual(found, [((1, 0, 0, 1), (0,), (0,)), ((1, 0, 1, 1), (1,), (0,))])
        value = (double, NOTHING)
        check_returns(self, ("out", 0, 1), doubles_error, n=2, one=LOW, other=((1, 0),), value=value)
        # One gives out a thing, the other none.
        check_returns(self, ("out", 0, 0), doubles_error, n=2, one=(), other=(), value=((0, 0, 0, None), NOTHING))
        # 0 passes 1 in one order, 1 passes 0 in the other one: this double leads to itself.
        double = (0, 1, 1, 0)
        check_returns(self, ("ending", 0), doubles_error, n=2, one=((1, 0),), other=LOW, value=(double, NOTHING))
        check_returns(self, ("leads", 0, 0), doubles_error, n=2, one=((1, 0),), other=LOW, value=(NOTHING, double))

    def test_the_first_item_is_told_first(self):
        double = (0, 1, 1, 0)
        check_returns(self, ("leads", 0, 0), doubles_error, n=2, one=(), other=(), value=(NOTHING, double))
        check_returns(self, ("out", 0, 0), doubles_error, n=2, one=(), other=(), value=(double, NOTHING))

    def test_papers_for_eight_kinds(self):
        one, other = full_book(8), full_book(8)[:7]
        paper = doubles(8, one, other)
        check_returns(self, None, doubles_error, n=8, one=one, other=other, value=paper)
        check_returns(self, "form", doubles_error, n=7, one=full_book(7), other=other[:6], value=paper)
        # What gives out a thing beside what gives out none stands in the last place.
        value = paper + ((7, 7, 7, None),)
        check_returns(self, ("out", len(paper), 0), doubles_error, n=8, one=one, other=other, value=value)
        value = tuple([double for double in paper if double != (7, 7, 7, 7)])
        self.check(8, one, other, value)
        self.check(8, one, other, tuple(all_doubles(8)))


class Changed(unittest.TestCase):

    def test_all_pairs_of_books_of_up_to_three_kinds(self):
        for n in (1, 2, 3):
            for one, other in itertools.product(books_of(n), repeat=2):
                why = told_blocked(n, one, other)
                for held in standings(n, 2):
                    if why is None:
                        wanted = told_changed(n, one, other, held)
                        check_returns(self, wanted, changed, n=n, one=one, other=other, held=held)
                    else:
                        check_error(self, Blocked(why), changed, n=n, one=one, other=other, held=held)

    def test_drawn_books(self):
        for draw, n, one, other in drawn_books(115, 200):
            held = draw.choice(standings(n, 2))
            if blocked(n, one, other) is None:
                wanted = told_changed(n, one, other, held)
                check_returns(self, wanted, changed, n=n, one=one, other=other, held=held)
                self.assertLessEqual(len(wanted), 2)

    def test_nothing_and_one_thing_held(self):
        for n in range(1, 9):
            one, other = full_book(n), full_book(n)[:n - 1]
            check_returns(self, ((None, None),), changed, n=n, one=one, other=other, held=(None, None))
            for u in range(n):
                check_returns(self, ((u, None),), changed, n=n, one=one, other=other, held=(u, None))


class WhatHolds(unittest.TestCase):

    def check_goes_on_alike(self, one, other, held, told, row):
        behind, out = told_run((one, other), held, row)
        wanted = (out, told_ending((one, other), behind))
        for then in told:
            behind, out = told_run((other, one), then, row)
            self.assertEqual((out, told_ending((other, one), behind)), wanted, (one, other, held, then, row))

    def test_what_can_come_may_be_shared_out_and_goes_on_alike(self):
        rows = [row for many in range(5) for row in itertools.product(range(3), repeat=many)]
        for one, other in itertools.product(books_of(3)[::2], repeat=2):
            if blocked(3, one, other) is None:
                for held in coming(3, (one, other)):
                    told = changed(3, one, other, held)
                    self.assertGreater(len(told), 0, (one, other, held))
                    for row in rows:
                        self.check_goes_on_alike(one, other, held, told, row)

    def test_drawn_books_and_long_rows(self):
        for draw, n, one, other in drawn_books(116, 240):
            if blocked(n, one, other) is None:
                for held in coming(n, (one, other)):
                    told = changed(n, one, other, held)
                    self.assertGreater(len(told), 0, (one, other, held))
                    self.check_goes_on_alike(one, other, held, told, draw_row(draw, n))

    def test_from_each_double_both_go_on_alike(self):
        for draw, n, one, other in drawn_books(117, 160):
            if blocked(n, one, other) is None:
                for double in doubles(n, one, other):
                    row = draw_row(draw, n, 20)
                    self.check_goes_on_alike(one, other, double[:2], [double[2:]], row)


if __name__ == "__main__":
    unittest.main()
