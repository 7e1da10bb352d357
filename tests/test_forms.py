"""[A2](b), [A3], [F3], [F4] and [F5] of the document: forms of a line, and roads."""

import itertools
import unittest

from baylines.changes import change
from baylines.changing import blocked
from baylines.forms import calmest, first_bays, least_line, lines_of, road
from tests.bays import told_blocked, told_whole
from tests.drawn import books_of, chance, draw_book, draw_fitting_line, draw_row, full_book
from tests.examples import check
from tests.values import check_returns

EXAMPLES = """
    >>> a, c, d = ((0, 1),), ((2, 3),), ((1, 2),)
    >>> from baylines.forms import calmest, first_bays, least_line, lines_of, road
    >>> first_bays(4, (a, c, a)), first_bays(4, (d, c, a)), first_bays(4, (c, a, d)), first_bays(4, (a, d, c, a)), first_bays(4, ())
    ((0, 1), (0,), (0, 1), (0,), ())
    >>> least_line(4, (c, a, a)) == (a, a, c), least_line(4, (d, c, a)) == (d, a, c), least_line(4, (c, a, d)) == (a, c, d)
    (True, True, True)
    >>> lines_of(4, (a, c, a)) == ((a, a, c), (a, c, a), (c, a, a)), len(lines_of(4, (a, d, c, a))), lines_of(4, ()), calmest(4, (a, c, a)) == (a, a, c)
    (True, 2, ((),), True)
    >>> road(4, (a, c, a), (c, a, a)), road(4, (c, a, d), (a, c, d)), road(4, (a, c), (a, c)), road(4, (a, c, c), (c, c, a)), road(4, (a, a, c, c), (c, c, a, a))
    (('road', (0,)), ('road', (0,)), ('road', ()), ('road', (0, 1)), ('road', (1, 0, 2, 1)))
    >>> road(4, (a, c), (a, a)), road(4, (a, d), (d, a)), road(4, (c, a, d), (d, a, c)), road(4, (a,), ())
    (('books',), ('order', 0, 1), ('order', 0, 2), ('books',))
"""

A, C, D = ((0, 1),), ((2, 3),), ((1, 2),)

# Six unlike bays of which each two may change.
SIX = ((), ((0, 1),), ((2, 3),), ((4, 5),), ((6, 7),), ((2, 3), (4, 5)))


def roads(n, line):
    """Return a dict: for each line that comes of line the first shortest road to it.

    The lines are told by the places where their bays stood in line. They are
    gone through in waves, and of each one the places in order, so each is met
    by the first of its shortest roads.
    """
    begin = tuple(range(len(line)))
    found = {begin: ()}
    waiting = [begin]
    for stood in waiting:
        for i in range(len(line) - 1):
            one, other = line[stood[i]], line[stood[i + 1]]
            if one != other and told_blocked(n, one, other) is None:
                behind = stood[:i] + (stood[i + 1], stood[i]) + stood[i + 2:]
                if behind not in found:
                    found[behind] = found[stood] + (i,)
                    waiting.append(behind)
    return found


def told_lines(n, line):
    """Return a dict: for each line that comes of line the first shortest road to it."""
    return {tuple([line[place] for place in stood]): places for stood, places in roads(n, line).items()}


def unlike_neighbours(line):
    return len([1 for one, other in itertools.pairwise(line) if one != other])


def turned_pairs(one, other):
    """Return the list of pairs of places of one whose copies stand the other way about in other."""
    left = list(enumerate(other))
    goals = []
    for book in one:
        goals.append([item for item in left if item[1] == book][0])
        left.remove(goals[-1])
    return [(i, j) for i, j in itertools.combinations(range(len(one)), 2) if goals[i] > goals[j]]


def told_road(n, one, other):
    """What road has to return."""
    if sorted(one) != sorted(other):
        return ("books",)
    for i, j in turned_pairs(one, other):
        if one[i] != one[j] and told_blocked(n, one[i], one[j]) is not None:
            return ("order", i, j)
    return ("road", told_lines(n, one)[other])


def drawn(seed, many, most=5):
    """Yield (draw, n, line) again and again, each n from 1 to 8 among them."""
    draw = chance(seed)
    for count in range(many):
        n = count % 8 + 1
        yield draw, n, draw_fitting_line(draw, n, most)


def shuffled(draw, line):
    return tuple(draw.sample(line, len(line)))


class Examples(unittest.TestCase):

    def test_as_they_stand_in_the_document(self):
        check(self, EXAMPLES)


class Forms(unittest.TestCase):

    def check(self, n, line):
        stood = roads(n, line)
        lines = told_lines(n, line)
        first = tuple(sorted({places[0] for places in stood if places}))
        check_returns(self, first, first_bays, n=n, line=line)
        check_returns(self, min(lines), least_line, n=n, line=line)
        check_returns(self, tuple(sorted(lines)), lines_of, n=n, line=line)
        calm = min(lines, key=lambda one: (unlike_neighbours(one), one))
        check_returns(self, calm, calmest, n=n, line=line)
        return len(lines)

    def test_all_lines_of_two_bays_of_three_kinds(self):
        for line in itertools.product(books_of(3), repeat=2):
            self.check(3, line)

    def test_all_lines_of_few_bays_of_few_books(self):
        books = [(), A, D, full_book(3)]
        for many in range(6):
            for line in itertools.product(books, repeat=many):
                if many < 5 or line[0] == A:
                    self.check(3, line)

    def test_drawn_lines(self):
        many = [self.check(n, line) for _, n, line in drawn(141, 160)]
        self.assertGreater(len([1 for one in many if one > 4]), 20)

    def test_drawn_lines_of_six_bays(self):
        for draw, n, line in drawn(142, 300, 6):
            if len(line) == 6:
                self.check(n, line)

    def test_no_bay_and_one(self):
        for n in range(1, 9):
            check_returns(self, (), first_bays, n=n, line=())
            check_returns(self, (), least_line, n=n, line=())
            check_returns(self, ((),), lines_of, n=n, line=())
            check_returns(self, (), calmest, n=n, line=())
            line = (full_book(n),)
            check_returns(self, (0,), first_bays, n=n, line=line)
            check_returns(self, line, least_line, n=n, line=line)
            check_returns(self, (line,), lines_of, n=n, line=line)
            check_returns(self, line, calmest, n=n, line=line)

    def test_like_bays(self):
        for n, book in ((1, ()), (2, A), (8, full_book(8))):
            line = (book,) * 6
            check_returns(self, (0,), first_bays, n=n, line=line)
            check_returns(self, (line,), lines_of, n=n, line=line)
            check_returns(self, line, least_line, n=n, line=line)
            check_returns(self, line, calmest, n=n, line=line)

    def test_six_unlike_bays_of_which_each_two_may_change(self):
        self.assertEqual(len(set(SIX)), 6)
        wanted = tuple(itertools.permutations(sorted(SIX)))
        self.assertEqual(len(wanted), 720)
        for line in (SIX, tuple(reversed(SIX))):
            check_returns(self, (0, 1, 2, 3, 4, 5), first_bays, n=8, line=line)
            check_returns(self, wanted, lines_of, n=8, line=line)
            check_returns(self, tuple(sorted(SIX)), least_line, n=8, line=line)
            check_returns(self, tuple(sorted(SIX)), calmest, n=8, line=line)

    def test_like_books_beside_one_another_and_apart(self):
        for line in ((A, C, A, C, A, C), (C, C, A, A, C, A), (A, (), C, A, (), C), (C, C, C, A, A, A)):
            self.check(4, line)
        check_returns(self, (A, A, A, C, C, C), calmest, n=4, line=(C, A, C, A, C, A))
        check_returns(self, (0, 1), first_bays, n=4, line=(C, A, C, A, C, A))

    def test_what_is_blocked_keeps_copies_apart(self):
        check_returns(self, (A, D, A), calmest, n=4, line=(A, D, A))
        check_returns(self, (A, D, A, C), calmest, n=4, line=(A, D, C, A))
        check_returns(self, (A, D, A, C), least_line, n=4, line=(A, D, C, A))


class Road(unittest.TestCase):

    def check(self, n, one, other):
        wanted = told_road(n, one, other)
        check_returns(self, wanted, road, n=n, one=one, other=other)
        return wanted[0]

    def test_all_lines_of_the_same_books(self):
        for line in ((A, C, D), (A, A, C, C), (A, C, D, A), ((), A, D, C), (A, D, full_book(3)), (C, (), C, ())):
            lines = sorted(set(itertools.permutations(line)))
            for one, other in itertools.product(lines, repeat=2):
                self.check(4, one, other)

    def test_drawn_lines(self):
        met = {}
        for draw, n, one in drawn(143, 500):
            word = self.check(n, one, shuffled(draw, one))
            met[word] = met.get(word, 0) + 1
        self.assertEqual(set(met), {"road", "order"})
        self.assertGreater(min(met.values()), 50)

    def test_lines_that_come_of_drawn_ones(self):
        for draw, n, one in drawn(144, 200):
            other = draw.choice(sorted(told_lines(n, one)))
            self.assertEqual(self.check(n, one, other), "road")

    def test_other_books(self):
        for draw, n, one in drawn(145, 200):
            self.check(n, one, draw_fitting_line(draw, n))
            self.check(n, one, one[1:])
            self.check(n, one, shuffled(draw, one) + (draw_book(draw, n),))
        check_returns(self, ("books",), road, n=4, one=(A, A, C), other=(A, C, C))
        check_returns(self, ("books",), road, n=4, one=(A, ()), other=(A,))
        check_returns(self, ("books",), road, n=4, one=(), other=(A,))
        # Other books are told ahead of an order that is turned.
        check_returns(self, ("books",), road, n=4, one=(A, D, C), other=(D, A, A))

    def test_one_line(self):
        for _, n, line in drawn(146, 60, 6):
            check_returns(self, ("road", ()), road, n=n, one=line, other=line)
        check_returns(self, ("road", ()), road, n=1, one=(), other=())
        check_returns(self, ("road", ()), road, n=1, one=((),) * 6, other=((),) * 6)

    def test_the_longest_road(self):
        other = tuple(reversed(SIX))
        wanted = told_lines(8, SIX)[other]
        self.assertEqual(len(wanted), 15)
        check_returns(self, ("road", wanted), road, n=8, one=SIX, other=other)

    def test_each_road_of_six_unlike_bays(self):
        for other, places in told_lines(8, SIX).items():
            self.assertEqual(road(8, SIX, other), ("road", places))

    def test_the_first_pair_of_places(self):
        check_returns(self, ("order", 0, 2), road, n=4, one=(A, C, D), other=(D, C, A))
        check_returns(self, ("order", 1, 2), road, n=4, one=(C, A, D), other=(C, D, A))
        check_returns(self, ("order", 0, 1), road, n=4, one=(D, A, C, D), other=(A, D, C, D))
        # The first D stays ahead of both; the first A has its D behind it there.
        check_returns(self, ("order", 1, 2), road, n=4, one=(D, A, D, A), other=(D, D, A, A))


class WhatHolds(unittest.TestCase):

    def test_a_road_exactly_if_a_line_comes_of_the_other(self):
        for draw, n, one in drawn(147, 240):
            other = shuffled(draw, one)
            comes = other in told_lines(n, one)
            told = road(n, one, other)
            self.assertEqual(told[0] == "road", comes)
            self.assertEqual(least_line(n, one) == least_line(n, other), comes)
            self.assertEqual(lines_of(n, one) == lines_of(n, other), comes)
            if comes:
                self.assertEqual(change(n, one, told[1]), other)
                self.assertEqual(len(told[1]), len(turned_pairs(one, other)))

    def test_first_bays_are_those_with_nothing_ahead_that_keeps_them(self):
        for _, n, line in drawn(148, 200, 6):
            wanted = []
            for j, book in enumerate(line):
                if not any(one == book or blocked(n, one, book) is not None for one in line[:j]):
                    wanted.append(j)
            self.assertEqual(first_bays(n, line), tuple(wanted))

    def test_calmest_is_least(self):
        for _, n, line in drawn(149, 200, 6):
            self.assertEqual(calmest(n, line), least_line(n, line))
            self.assertEqual(lines_of(n, line)[0], least_line(n, line))

    def test_all_lines_that_come_do_the_same(self):
        for draw, n, line in drawn(150, 80):
            row = draw_row(draw, n)
            for other in lines_of(n, line):
                self.assertEqual(told_whole(other, row), told_whole(line, row), (line, other, row))


if __name__ == "__main__":
    unittest.main()
