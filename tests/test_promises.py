"""[A2] of the document: its promises (a) to (e), as the whole program keeps them."""

import itertools
import unittest

from baylines.changing import blocked, parting
from baylines.designs import design, design_error, never
from baylines.desks import Desk
from baylines.errors import BayError
from baylines.forms import least_line, lines_of, road
from baylines.papers import kept, kept_error
from baylines.planttexts import plant_text, read_plant
from baylines.ranks import fewest_full, lifted
from baylines.rounds import many_rounds
from baylines.running import run, whole
from baylines.sameness import parted
from baylines.sources import can_come, source, sources
from baylines.telling import facts, sure
from tests.bays import told_blocked, told_run, told_whole, whom
from tests.drawn import chance, draw_book, draw_fitting_line, draw_row, drawn_books, drawn_lines, full_book


def long_row(draw, n):
    """Return a row of two hundred things: the promises hold of all rows, however long."""
    return tuple([draw.randrange(n) for _ in range(200)])


def may_change_places(n, one, other):
    """Return whether two bays may change places, as [A2](a) tells it of kinds, without blocked's words."""
    for x in range(n):
        if whom(one, x) and whom(other, x) and whom(one, x) != whom(other, x):
            return False
    for x, y in itertools.product(range(n), repeat=2):
        if whom(one, x) and not whom(other, x) and whom(other, y) and not whom(one, y):
            if ({x} | whom(one, x)) & ({y} | whom(other, y)):
                return False
    return True


class Promises(unittest.TestCase):

    def test_a_bays_that_do_the_same_in_either_order(self):
        found = {True: 0, False: 0}
        for draw, n, one, other in drawn_books(701, 400):
            may = may_change_places(n, one, other)
            found[may] += 1
            self.assertIs(blocked(n, one, other) is None, may)
            row = parting(n, one, other)
            if may:
                self.assertIsNone(row)
                row = long_row(draw, n)
                self.assertEqual(told_whole((one, other), row), told_whole((other, one), row))
            else:
                self.assertLessEqual(len(row), 3)
                self.assertNotEqual(told_whole((one, other), row), told_whole((other, one), row))
        self.assertGreater(min(found.values()), 50)

    def test_a_at_any_moment_of_a_line_s_running(self):
        draw = chance(702)
        changes = 0
        for count in range(64):
            n = count % 8 + 1
            line, desk, row = draw_fitting_line(draw, n), Desk(n), []
            for place, book in enumerate(line):
                desk.put(place, book)
            while desk.version < 60:
                places = [
                    place for place in range(len(desk.line) - 1)
                    if desk.line[place] != desk.line[place + 1] and told_blocked(n, *desk.line[place:place + 2]) is None
                ]
                if places and draw.random() < 0.5:
                    changes += 1
                    desk.change(draw.choice(places))
                else:
                    row.append(draw.randrange(n))
                    desk.come(row[-1])
            self.assertEqual(tuple([kind for _, kind in desk.outs + desk.rest()]), told_whole(line, row))
        self.assertGreater(changes, 300)

    def test_b_lines_that_come_of_one_another(self):
        found = {True: 0, False: 0}
        for draw, n, one, other in drawn_lines(703, 300, 5, 5):
            other = draw.choice((other, tuple(draw.sample(one, len(one))), draw.choice(lines_of(n, one))))
            comes = other in lines_of(n, one)
            found[comes] += 1
            self.assertIs(road(n, one, other)[0] == "road", comes)
            self.assertIs(least_line(n, one) == least_line(n, other), comes)
        self.assertGreater(min(found.values()), 50)

    def test_c_a_kept_paper_or_a_row_that_parts(self):
        found = {True: 0, False: 0}
        for draw, n, one, other in drawn_lines(704, 160, 4, 3):
            paper, row = kept(n, one, other), parted(n, one, other)
            found[row is None] += 1
            self.assertIs(paper is None, row is not None)
            if row is None:
                self.assertIsNone(kept_error(n, one, other, paper))
                row = long_row(draw, n)
                self.assertEqual(told_whole(one, row), told_whole(other, row))
            else:
                self.assertNotEqual(told_whole(one, row), told_whole(other, row))
        self.assertGreater(min(found.values()), 20)

    def test_d_a_row_that_is_done_again_and_again(self):
        for draw, n, line, _ in drawn_lines(705, 160, 8, 6):
            row = draw_row(draw, n, 12) + (0,)
            standing, outs = (None,) * len(line), []
            for _ in range(len(line)):
                standing, _ = told_run(line, standing, row)
            for _ in range(4):
                behind, out = told_run(line, standing, row)
                self.assertEqual(behind, standing)
                outs.append(out)
            self.assertEqual(len(set(outs)), 1)
            told = many_rounds(n, line, row, 10 ** 30)
            self.assertEqual(told[:2], (standing, outs[0]))
            self.assertLessEqual(told[2], len(line))

    def test_e_what_can_come_out_and_how_many_rows_become_one(self):
        draw = chance(706)
        for count in range(48):
            n = count % 4 + 1
            line, many = draw_fitting_line(draw, n, 4), draw.randint(0, 4)
            made = [whole(line, row) for row in itertools.product(range(n), repeat=many)]
            for row in itertools.product(range(n), repeat=many):
                self.assertEqual(sources(n, line, row), made.count(row))
                self.assertIs(can_come(n, line, row), row in made)
                for number in range(made.count(row)):
                    self.assertEqual(whole(line, source(n, line, row, number)), row)

    def test_e_how_few_bays_bring_a_row_into_rank(self):
        draw = chance(707)
        for count in range(80):
            n = count % 8 + 1
            row = draw_row(draw, n, 20)
            few = fewest_full(row)
            rising = tuple(sorted(row))
            self.assertEqual(told_whole((full_book(n),) * few, row), rising)
            if few:
                self.assertNotEqual(told_whole((full_book(n),) * (few - 1), row), rising)
            if 0 < few <= 6 and n > 1:
                self.assertEqual(lifted(n, (full_book(n),) * few), few + 1)

    def test_e_which_bays_of_a_shelf_do_what_is_wanted(self):
        draw = chance(708)
        found = set()
        for count in range(60):
            n = count % 3 + 2
            shelf = tuple([draw_book(draw, n) for _ in range(draw.randint(1, 3))])
            row = draw_row(draw, n, 5)
            wanted = ((row, tuple(draw.sample(row, len(row)))),)
            told = design(n, shelf, wanted, 8)
            found.add(told is None)
            if told is None:
                short = itertools.product(range(len(shelf)), repeat=3)
                self.assertNotIn(None, [design_error(n, shelf, wanted, places) for places in short])
            else:
                self.assertIsNone(design_error(n, shelf, wanted, told))
                self.assertEqual(told_whole(tuple([shelf[place] for place in told]), row), wanted[0][1])
                self.assertFalse(never(n, shelf, wanted))
        self.assertEqual(found, {True, False})

    def test_e_what_is_sure_of_a_book_that_nobody_told(self):
        draw = chance(709)
        for count in range(80):
            n = count % 8 + 1
            book, row = draw_book(draw, n), draw_row(draw, n)
            passing, staying = facts(n, row, told_whole((book,), row))
            always, nowhere = sure(n, passing, staying)
            self.assertLessEqual(set(always), set(book))
            self.assertFalse(set(nowhere) & set(book))
            self.assertEqual(told_whole((always,), row), told_whole((book,), row))


class Together(unittest.TestCase):

    def test_a_plant_s_line_at_a_desk(self):
        # What is told in a text, run, and led through a desk is one and the same.
        text = "kinds red tan sky; book up = full; book few = only red of up; book odd = pairs sky > tan;" \
            "line main = up 2 * few odd;"
        plant = read_plant(text)
        self.assertEqual(read_plant(plant_text(plant)), plant)
        line = plant[2][0][1]
        desk = Desk(len(plant[0]))
        for place, book in enumerate(line):
            desk.put(place, book)
        row = (2, 1, 0, 2, 0, 1, 1, 0, 2)
        for kind in row:
            desk.come(kind)
        self.assertEqual(desk.standing, run(line, (None,) * 4, row)[0])
        self.assertEqual(tuple([kind for _, kind in desk.outs + desk.rest()]), whole(line, row))

    def test_every_error_is_one_of_the_package(self):
        for call, values in ((Desk, (0,)), (read_plant, (5,)), (Desk(2).undo, ()), (source, (2, (), (0,), None))):
            with self.assertRaises(BayError):
                call(*values)


if __name__ == "__main__":
    unittest.main()
