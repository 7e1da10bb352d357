"""[A2](d), [A3], [D4] and [D5] of the document: many rounds."""

import itertools
import unittest

from baylines.rounds import many_rounds
from baylines.running import run
from tests.bays import told_run
from tests.drawn import books_of, chance, draw_book, draw_line, draw_row, full_book
from tests.examples import check
from tests.values import check_returns

EXAMPLES = """
    >>> from baylines.rounds import many_rounds
    >>> full3, one = ((0, 1), (0, 2), (1, 2)), ((1, 2),)
    >>> many_rounds(3, (full3,), (2, 0, 1), 1), many_rounds(3, (full3,), (2, 0, 1), 10 ** 30), many_rounds(3, (full3,), (2, 0, 1), 0)
    (((2,), (0, 1), 1), ((2,), (2, 0, 1), 1), ((None,), (), 1))
    >>> many_rounds(3, (full3, full3), (2, 0, 1), 2), many_rounds(3, (full3, full3), (2, 0, 1), 3)
    (((2, 2), (1, 0, 1), 2), ((2, 2), (2, 0, 1), 2))
    >>> [many_rounds(3, (one, one, one), (2, 1), times)[:2] for times in (1, 2, 3, 4)], many_rounds(3, (one, one, one), (2, 1), 7)[2], many_rounds(3, (), (2, 1), 9)
    ([((2, 1, None), ()), ((2, 2, 1), (1,)), ((2, 2, 2), (1, 1)), ((2, 2, 2), (2, 1))], 3, ((), (2, 1), 0))
"""

FULL3 = full_book(3)


def gone_through(line, row, many):
    """Return the standings behind 0, 1 .. many rounds, and what comes out in each of the rounds."""
    standings, outs = [(None,) * len(line)], []
    for _ in range(many):
        behind, out = told_run(line, standings[-1], row)
        standings.append(behind)
        outs.append(out)
    return standings, outs


def told_rounds(line, row, times):
    """What many_rounds has to return, times being few."""
    standings, outs = gone_through(line, row, max(times, 12) + 1)
    begin = [k for k in range(12) if standings[k] == standings[k + 1]][0]
    return (standings[times], outs[times - 1] if times else (), begin)


def drawn(seed, many):
    """Yield (draw, n, line, row) again and again, row being of one thing or more."""
    draw = chance(seed)
    for count in range(many):
        n = count % 8 + 1
        row = draw_row(draw, n, draw.choice((0, 2, 6, 59))) + (draw.randrange(n),)
        yield draw, n, draw_line(draw, n), row


class Examples(unittest.TestCase):

    def test_as_they_stand_in_the_document(self):
        check(self, EXAMPLES)


class ManyRounds(unittest.TestCase):

    def test_one_bay_with_each_book_of_three_kinds(self):
        for book in books_of(3):
            for many in (1, 2, 3):
                for row in itertools.product(range(3), repeat=many):
                    for times in range(4):
                        self.assertEqual(many_rounds(3, (book,), row, times), told_rounds((book,), row, times))

    def test_two_bays_with_each_two_books_of_three_kinds(self):
        for line in itertools.product(books_of(3), repeat=2):
            for row in itertools.product(range(3), repeat=3):
                for times in (0, 1, 2, 3):
                    self.assertEqual(many_rounds(3, line, row, times), told_rounds(line, row, times))

    def test_drawn_lines_and_rows(self):
        for _, n, line, row in drawn(91, 160):
            for times in (0, 1, 2, len(line), len(line) + 1, 11):
                wanted = told_rounds(line, row, times)
                check_returns(self, wanted, many_rounds, n=n, line=line, row=row, times=times)

    def test_very_many_rounds(self):
        for _, n, line, row in drawn(92, 160):
            wanted = told_rounds(line, row, len(line) + 1)
            for times in (len(line) + 2, 1000, 10 ** 30 - 1, 10 ** 30):
                check_returns(self, wanted, many_rounds, n=n, line=line, row=row, times=times)

    def test_no_round(self):
        for _, n, line, row in drawn(93, 60):
            standing, out, begin = many_rounds(n, line, row, 0)
            self.assertEqual((standing, out), ((None,) * len(line), ()))
            self.assertEqual(begin, told_rounds(line, row, 5)[2])

    def test_no_bay(self):
        check_returns(self, ((), (), 0), many_rounds, n=3, line=(), row=(2, 1), times=0)
        check_returns(self, ((), (2, 1), 0), many_rounds, n=3, line=(), row=(2, 1), times=1)
        check_returns(self, ((), (7,) * 60, 0), many_rounds, n=8, line=(), row=(7,) * 60, times=10 ** 30)

    def test_rows_of_one_thing_fill_the_line_bay_by_bay(self):
        for n in range(1, 9):
            for many in range(7):
                line = (full_book(n),) * many
                for times in range(many + 3):
                    held = min(times, many)
                    standing = (n - 1,) * held + (None,) * (many - held)
                    out = (n - 1,) if times > many else ()
                    wanted = (standing, out, many)
                    check_returns(self, wanted, many_rounds, n=n, line=line, row=(n - 1,), times=times)

    def test_the_round_in_which_it_begins_to_stay(self):
        # Behind the first round the standing stays, but what came out was less.
        check_returns(self, ((2,), (0, 1), 1), many_rounds, n=3, line=(FULL3,), row=(2, 0, 1), times=1)
        check_returns(self, ((2,), (2, 0, 1), 1), many_rounds, n=3, line=(FULL3,), row=(2, 0, 1), times=2)

    def test_six_bays_and_sixty_things(self):
        draw = chance(94)
        for _ in range(10):
            line = tuple([draw_book(draw, 8) for _ in range(6)])
            row = tuple([draw.randrange(8) for _ in range(60)])
            for times in (0, 1, 5, 6, 7):
                wanted = told_rounds(line, row, times)
                check_returns(self, wanted, many_rounds, n=8, line=line, row=row, times=times)


class WhatHolds(unittest.TestCase):

    def test_it_begins_behind_as_many_rounds_as_bays_at_the_latest(self):
        for _, n, line, row in drawn(95, 800):
            self.assertLessEqual(many_rounds(n, line, row, 3)[2], len(line))
        line = (((1, 2),),) * 3
        self.assertEqual(many_rounds(3, line, (2, 1), 0)[2], 3)

    def test_all_short_rows_of_lines_of_three_bays(self):
        books = books_of(3)[::3]
        for line in itertools.product(books, repeat=3):
            for row in itertools.product(range(3), repeat=3):
                self.assertLessEqual(many_rounds(3, line, row, 0)[2], 3)

    def test_it_stays_from_there_on_and_the_same_comes_out(self):
        for _, n, line, row in drawn(96, 200):
            begin = many_rounds(n, line, row, 0)[2]
            standings, outs = gone_through(line, row, begin + 5)
            self.assertEqual(len(set(standings[begin:])), 1)
            self.assertEqual(len(set(outs[begin:])), 1)
            self.assertNotIn(standings[begin], standings[:begin])

    def test_a_bay_stays_as_it_was_behind_the_first_time(self):
        draw = chance(97)
        for count in range(300):
            n = count % 8 + 1
            book, row = draw_book(draw, n), draw_row(draw, n, 59) + (draw.randrange(n),)
            first, _ = run((book,), (None,), row)
            again, _ = run((book,), first, row)
            self.assertEqual(first, again)


if __name__ == "__main__":
    unittest.main()
