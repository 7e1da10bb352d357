"""[A3], [C2], [C4], [C5] and [C6] of the document: running."""

import itertools
import unittest

from baylines.books import all_books, passes
from baylines.lines import empty, standing_error
from baylines.rows import row_error, same_things
from baylines.running import ending, run, step, through, whole
from tests.bays import marked_whole, standings, told_ending, told_run
from tests.drawn import books_of, chance, draw_book, draw_line, draw_row, draw_standing, full_book
from tests.examples import check
from tests.values import check_returns

EXAMPLES = """
    >>> ranks, slow = ((0, 1), (0, 2), (1, 2)), ((0, 1), (0, 2))
    >>> from baylines.running import ending, run, step, through, whole
    >>> step((ranks,), (None,), 1), step((ranks,), (1,), 2), step((ranks,), (2,), 0), step((ranks,), (2,), 2), step((), (), 1)
    (((1,), None), ((2,), 1), ((2,), 0), ((2,), 2), ((), 1))
    >>> step((ranks, slow), (2, None), 0), step((ranks, slow), (2, 0), 1), step((ranks, slow), (2, 1), 0)
    (((2, 0), None), ((2, 1), 0), ((2, 1), 0))
    >>> run((ranks,), (None,), (1, 2, 0)), run((ranks, slow), (None, None), (2, 0, 1, 1, 0)), run((ranks,), (2,), ())
    (((2,), (1, 0)), ((2, 1), (0, 1, 0)), ((2,), ()))
    >>> ending((ranks,), (2,)), ending((ranks, slow), (2, 1)), ending((ranks, slow), (1, 2)), ending((ranks, slow), (1, None)), ending((ranks,), (None,))
    ((2,), (1, 2), (2, 1), (1,), ())
    >>> whole((ranks, slow), (2, 0, 1, 1, 0)), through(ranks, (2, 0, 1, 1, 0)), through(slow, (0, 1, 1, 0, 2))
    ((0, 1, 0, 1, 2), (0, 1, 1, 0, 2), (0, 1, 0, 1, 2))
    >>> whole((), (1, 0)), whole(((),), (2, 1, 0)), whole((ranks,), (2, 1, 0)), whole((ranks, ranks), (2, 1, 0)), whole((((1, 2),),), (2, 1, 0))
    ((1, 0), (2, 1, 0), (1, 0, 2), (0, 1, 2), (1, 2, 0))
"""

RANKS, SLOW = ((0, 1), (0, 2), (1, 2)), ((0, 1), (0, 2))


def drawn(seed, many):
    """Yield (draw, n, line, row) again and again, each n from 1 to 8 among them."""
    draw = chance(seed)
    for count in range(many):
        n = count % 8 + 1
        yield draw, n, draw_line(draw, n), draw_row(draw, n)


class Examples(unittest.TestCase):

    def test_as_they_stand_in_the_document(self):
        check(self, EXAMPLES)


class Step(unittest.TestCase):

    def test_one_bay_with_each_book_of_three_kinds(self):
        for book in books_of(3):
            for thing in range(3):
                self.assertEqual(step((book,), (None,), thing), ((thing,), None))
                for held in range(3):
                    wanted = ((held,), thing) if (thing, held) in book else ((thing,), held)
                    self.assertEqual(step((book,), (held,), thing), wanted, (book, held, thing))

    def test_two_bays_with_each_two_books_of_three_kinds(self):
        for line in itertools.product(books_of(3), repeat=2):
            for standing in standings(3, 2):
                for thing in range(3):
                    behind, out = told_run(line, standing, (thing,))
                    wanted = (behind, out[0] if out else None)
                    self.assertEqual(step(line, standing, thing), wanted, (line, standing, thing))

    def test_no_bay(self):
        for thing in range(8):
            check_returns(self, ((), thing), step, line=(), standing=(), thing=thing)

    def test_each_way_of_calling(self):
        check_returns(self, ((2, 1), 0), step, line=(RANKS, SLOW), standing=(2, 0), thing=1)
        check_returns(self, ((2, 0), None), step, line=(RANKS, SLOW), standing=(2, None), thing=0)
        check_returns(self, ((0, None), None), step, line=(RANKS, SLOW), standing=(None, None), thing=0)

    def test_a_kind_of_nought_is_held_as_others_are(self):
        check_returns(self, ((0,), 0), step, line=((),), standing=(0,), thing=0)
        check_returns(self, ((1, 0), None), step, line=((), ()), standing=(0, None), thing=1)
        check_returns(self, ((0, 0), 0), step, line=((), ()), standing=(0, 0), thing=0)

    def test_nothing_passes_by_an_idle_bay(self):
        check_returns(self, ((3, 0, 1), 2), step, line=((), (), ()), standing=(0, 1, 2), thing=3)

    def test_a_thing_that_passes_all(self):
        line = (full_book(8),) * 6
        check_returns(self, ((7, 6, 5, 4, 3, 2), 1), step, line=line, standing=(7, 6, 5, 4, 3, 2), thing=1)
        check_returns(self, ((7, 6, 5, 4, 3, 2), 2), step, line=line, standing=(7, 6, 5, 4, 3, 2), thing=2)
        check_returns(self, ((7, 7, 6, 5, 4, 3), 2), step, line=line, standing=(7, 6, 5, 4, 3, 2), thing=7)

    def test_one_kind_never_passes_itself(self):
        for n in range(1, 9):
            for kind in range(n):
                check_returns(self, ((kind,), kind), step, line=(full_book(n),), standing=(kind,), thing=kind)

    def test_drawn_lines_and_any_standings(self):
        for draw, n, line, _ in drawn(51, 400):
            standing, thing = draw_standing(draw, n, line), draw.randrange(n)
            behind, out = told_run(line, standing, (thing,))
            wanted = (behind, out[0] if out else None)
            check_returns(self, wanted, step, line=line, standing=standing, thing=thing)
            self.assertIsNone(standing_error(n, line, behind))


class Run(unittest.TestCase):

    def test_no_thing(self):
        for line in ((), (RANKS,), (RANKS, SLOW)):
            for standing in standings(3, len(line)):
                check_returns(self, (standing, ()), run, line=line, standing=standing, row=())

    def test_each_way_of_calling(self):
        check_returns(self, ((2,), (1, 0)), run, line=(RANKS,), standing=(None,), row=(1, 2, 0))
        check_returns(self, ((), (1, 0)), run, line=(), standing=(), row=(1, 0))
        check_returns(self, ((0, 0), (0,) * 58), run, line=((), ()), standing=(None, None), row=(0,) * 60)

    def test_nought_comes_out_as_others_do(self):
        check_returns(self, ((1,), (0, 0)), run, line=((),), standing=(0,), row=(0, 1))

    def test_all_short_rows(self):
        for line in itertools.product(books_of(2) + [()], repeat=3):
            for standing in standings(2, 3):
                for row in itertools.product(range(2), repeat=4):
                    self.assertEqual(run(line, standing, row), told_run(line, standing, row))

    def test_drawn_lines_and_rows(self):
        for draw, n, line, row in drawn(52, 400):
            standing = draw_standing(draw, n, line)
            check_returns(self, told_run(line, standing, row), run, line=line, standing=standing, row=row)

    def test_sixty_things(self):
        draw = chance(53)
        for many in range(7):
            line = tuple([draw_book(draw, 8) for _ in range(many)])
            row = tuple([draw.randrange(8) for _ in range(60)])
            check_returns(self, told_run(line, empty(line), row), run, line=line, standing=empty(line), row=row)


class Ending(unittest.TestCase):

    def test_each_way_of_calling(self):
        check_returns(self, (1, 2), ending, line=(RANKS, SLOW), standing=(2, 1))
        check_returns(self, (0,), ending, line=(RANKS, SLOW), standing=(0, None))
        check_returns(self, (), ending, line=(), standing=())

    def test_one_bay(self):
        for book in books_of(3):
            check_returns(self, (), ending, line=(book,), standing=(None,))
            for kind in range(3):
                check_returns(self, (kind,), ending, line=(book,), standing=(kind,))

    def test_what_ends_first_may_pass_what_is_held_behind_it(self):
        check_returns(self, (0, 2), ending, line=((), RANKS), standing=(0, 2))
        check_returns(self, (2, 0), ending, line=(RANKS, ()), standing=(0, 2))
        check_returns(self, (0, 1, 2), ending, line=((), RANKS, RANKS), standing=(0, 2, 1))
        check_returns(self, (1, 0, 2), ending, line=((), RANKS, ()), standing=(0, 2, 1))

    def test_two_bays_with_each_two_books_of_three_kinds(self):
        for line in itertools.product(books_of(3), repeat=2):
            for standing in standings(3, 2):
                self.assertEqual(ending(line, standing), told_ending(line, standing), (line, standing))

    def test_drawn_lines_and_any_standings(self):
        for draw, n, line, _ in drawn(54, 400):
            standing = draw_standing(draw, n, line)
            wanted = told_ending(line, standing)
            check_returns(self, wanted, ending, line=line, standing=standing)
            held = [kind for kind in standing if kind is not None]
            self.assertEqual(sorted(wanted), sorted(held))


class Whole(unittest.TestCase):

    def test_no_thing_and_no_bay(self):
        for line in ((), (RANKS,), (RANKS, SLOW, ()), ((),) * 6):
            check_returns(self, (), whole, line=line, row=())
        for row in ((0,), (2, 1, 0), (7,) * 60):
            check_returns(self, row, whole, line=(), row=row)

    def test_each_way_of_calling(self):
        check_returns(self, (0, 1, 2), whole, line=(RANKS, RANKS), row=(2, 1, 0))
        check_returns(self, (1, 0, 2), through, book=RANKS, row=(2, 1, 0))

    def test_all_short_rows(self):
        for line in itertools.product(books_of(3), repeat=2):
            for row in itertools.product(range(3), repeat=4):
                behind, out = told_run(line, (None, None), row)
                self.assertEqual(whole(line, row), out + told_ending(line, behind), (line, row))

    def test_drawn_lines_and_rows(self):
        for _, _, line, row in drawn(55, 400):
            behind, out = told_run(line, (None,) * len(line), row)
            check_returns(self, out + told_ending(line, behind), whole, line=line, row=row)

    def test_six_bays_and_sixty_things(self):
        row = tuple([place * 5 % 8 for place in range(60)])
        line = (full_book(8),) * 6
        behind, out = told_run(line, (None,) * 6, row)
        check_returns(self, out + told_ending(line, behind), whole, line=line, row=row)
        check_returns(self, (7, 6, 5, 4, 3, 2, 1, 0), whole, line=((),) * 6, row=(7, 6, 5, 4, 3, 2, 1, 0))
        check_returns(self, (1, 0, 2, 3, 4, 5, 6, 7), whole, line=(full_book(8),) * 6, row=(7, 6, 5, 4, 3, 2, 1, 0))


class Through(unittest.TestCase):

    def test_it_is_whole_of_one_bay(self):
        for book in all_books(3):
            for row in itertools.product(range(3), repeat=4):
                self.assertEqual(through(book, row), whole((book,), row))

    def test_rows(self):
        check_returns(self, (), through, book=RANKS, row=())
        check_returns(self, (0,), through, book=RANKS, row=(0,))
        check_returns(self, (0, 1, 0, 1, 2), through, book=SLOW, row=(0, 1, 1, 0, 2))
        check_returns(self, (0,) * 59 + (7,), through, book=full_book(8), row=(7,) + (0,) * 59)
        check_returns(self, (2, 1, 0), through, book=(), row=(2, 1, 0))


class WhatHolds(unittest.TestCase):

    def test_whole_is_through_of_each_bay(self):
        for _, _, line, row in drawn(56, 300):
            wanted = row
            for book in line:
                wanted = through(book, wanted)
            self.assertEqual(whole(line, row), wanted, (line, row))

    def test_whole_of_two_lines_one_behind_another(self):
        for draw, n, line, row in drawn(57, 200):
            more = draw_line(draw, n)
            self.assertEqual(whole(line + more, row), whole(more, whole(line, row)))

    def test_whole_has_the_things_of_the_row(self):
        for _, n, line, row in drawn(58, 300):
            out = whole(line, row)
            self.assertTrue(same_things(out, row))
            self.assertIsNone(row_error(n, out))

    def test_things_that_do_not_pass_come_out_as_they_came(self):
        for _, _, line, row in drawn(59, 150):
            marked = marked_whole(line, row)
            self.assertEqual(tuple([kind for kind, _ in marked]), whole(line, row))
            pairs = set(itertools.chain(*line))
            for (one, at), (other, then) in itertools.combinations(marked, 2):
                if (one, other) not in pairs:
                    self.assertLess(at, then, (line, row))

    def test_kinds_that_pass_nobody_stay_in_their_order(self):
        for _, n, line, row in drawn(60, 300):
            out = whole(line, row)
            for x, y in itertools.combinations_with_replacement(range(n), 2):
                if not any(passes(book, x, y) or passes(book, y, x) for book in line):
                    self.assertEqual([k for k in out if k in (x, y)], [k for k in row if k in (x, y)])

    def test_idle_bays_change_nothing(self):
        draw = chance(61)
        for many in range(7):
            row = draw_row(draw, 8)
            line = ((),) * many
            self.assertEqual(whole(line, row), row)
            behind, out = run(line, empty(line), row)
            self.assertEqual(out, row[:max(0, len(row) - many)])
            self.assertEqual([kind for kind in reversed(behind) if kind is not None], list(row[len(out):]))

    def test_one_bay_brings_a_thing_ahead_by_one_place_at_the_most(self):
        draw = chance(62)
        for count in range(200):
            n = count % 8 + 1
            book, row = draw_book(draw, n), draw_row(draw, n)
            for place, (_, came) in enumerate(marked_whole((book,), row)):
                self.assertGreaterEqual(place, came - 1)
            self.assertEqual(tuple([kind for kind, _ in marked_whole((book,), row)]), through(book, row))

    def test_as_many_are_held_as_there_are_bays(self):
        for _, n, line, row in drawn(63, 300):
            behind, out = run(line, empty(line), row)
            held = [kind for kind in behind if kind is not None]
            self.assertEqual(len(held), min(len(line), len(row)))
            self.assertEqual(len(out), max(0, len(row) - len(line)))
            self.assertIsNone(standing_error(n, line, behind))
            if None not in behind:
                for kind in range(n):
                    then, came_out = step(line, behind, kind)
                    self.assertNotIn(None, then)
                    self.assertIsNotNone(came_out)

    def test_run_of_two_rows_one_behind_another(self):
        for draw, n, line, row in drawn(64, 300):
            standing, more = draw_standing(draw, n, line), draw_row(draw, n)
            first, out = run(line, standing, row)
            second, out_then = run(line, first, more)
            self.assertEqual(run(line, standing, row + more), (second, out + out_then))

    def test_run_is_step_again_and_again(self):
        for draw, n, line, row in drawn(65, 200):
            standing = draw_standing(draw, n, line)
            behind, outs = standing, []
            for thing in row:
                behind, out = step(line, behind, thing)
                outs += [] if out is None else [out]
            self.assertEqual(run(line, standing, row), (behind, tuple(outs)))

    def test_ending_leaves_nothing_behind(self):
        for _, _, line, row in drawn(66, 300):
            behind, out = run(line, empty(line), row)
            rest = ending(line, behind)
            self.assertEqual(len(rest), len(line) - behind.count(None))
            self.assertEqual(out + rest, whole(line, row))
            self.assertTrue(same_things(out + rest, row))


if __name__ == "__main__":
    unittest.main()
