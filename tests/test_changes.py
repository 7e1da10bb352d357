"""[A2](a), [A3], [F1], [F2] and [F5] of the document: changes."""

import itertools
import unittest

from baylines.changes import change, live, may_change
from baylines.changing import blocked
from baylines.errors import Unfit
from tests.bays import coming, none_first, standings, told_blocked, told_changed, told_ending, told_run, told_whole
from tests.drawn import books_of, chance, draw_fitting_line, draw_row, draw_standing, full_book
from tests.examples import check
from tests.values import check_error, check_returns

EXAMPLES = """
    >>> from baylines.changes import change, live, may_change
    >>> a, c, d = ((0, 1),), ((2, 3),), ((1, 2),)
    >>> may_change(4, (a, c, a)), may_change(4, (a, a)), may_change(4, (c, a, d)), may_change(4, (a, d, c, a)), may_change(4, ())
    ((0, 1), (), (0,), (2,), ())
    >>> change(4, (a, c, a), (0,)) == (c, a, a), change(4, (a, d, c, a), (2,)) == (a, d, a, c), change(4, (a, c, a), (0, 0)) == (a, c, a)
    (True, True, True)
    >>> live(4, (a, c), ((1, 0),), (0,)) == ((c, a), ((0, 1), (1, 0))), live(4, (a, c, a), ((3, 1, None),), (0,)) == ((c, a, a), ((3, 1, None),))
    (True, True)
    >>> slow = ((0, 1), (0, 2))
    >>> live(3, (slow, (), ()), ((1, 0, 2),), (0,)), live(3, (slow, (), ()), ((1, 0, 2),), (0, 1))
    ((((), ((0, 1), (0, 2)), ()), ((0, 1, 2), (1, 0, 2))), (((), (), ((0, 1), (0, 2))), ((0, 1, 2),)))
    >>> change(4, (c, a, d), (1,))
    raises Unfit()
    >>> change(4, (a, c), (1,))
    raises Unfit()
    >>> live(4, (a, c), ((0, 1),), (0,))
    raises Unfit()
"""

A, C, D = ((0, 1),), ((2, 3),), ((1, 2),)
SLOW = ((0, 1), (0, 2))


def told_may_change(n, line):
    """What may_change has to return."""
    found = []
    for i in range(len(line) - 1):
        if line[i] != line[i + 1] and told_blocked(n, line[i], line[i + 1]) is None:
            found.append(i)
    return tuple(found)


def told_change(n, line, places):
    """What change has to return, None if it has to raise Unfit()."""
    bays = list(line)
    for i in places:
        if i not in told_may_change(n, bays):
            return None
        bays[i:i + 2] = reversed(bays[i:i + 2])
    return tuple(bays)


def told_live(n, line, ways, places):
    """What live has to return, None if it has to raise Unfit()."""
    for i in places:
        if i not in told_may_change(n, line):
            return None
        become = {held: told_changed(n, line[i], line[i + 1], held) for held in {way[i:i + 2] for way in ways}}
        ways = {way[:i] + held + way[i + 2:] for way in ways for held in become[way[i:i + 2]]}
        if not ways:
            return None
        line = told_change(n, line, (i,))
    return (line, tuple(sorted(ways, key=none_first)))


def draw_places(draw, n, line, most=6):
    """Return places of at most so many changes of line, one behind another, that may be made."""
    places = []
    for _ in range(draw.randint(0, most)):
        may = told_may_change(n, told_change(n, line, places))
        if may:
            places.append(draw.choice(may))
    return tuple(places)


def drawn(seed, many, most=6):
    """Yield (draw, n, line) again and again, each n from 1 to 8 among them."""
    draw = chance(seed)
    for count in range(many):
        n = count % 8 + 1
        yield draw, n, draw_fitting_line(draw, n, most)


class Examples(unittest.TestCase):

    def test_as_they_stand_in_the_document(self):
        check(self, EXAMPLES)


class MayChange(unittest.TestCase):

    def test_all_lines_of_two_bays_of_three_kinds(self):
        for line in itertools.product(books_of(3), repeat=2):
            check_returns(self, told_may_change(3, line), may_change, n=3, line=line)

    def test_all_lines_of_four_bays_of_two_kinds(self):
        for line in itertools.product(books_of(2), repeat=4):
            self.assertEqual(may_change(2, line), told_may_change(2, line))

    def test_drawn_lines(self):
        for _, n, line in drawn(121, 400):
            check_returns(self, told_may_change(n, line), may_change, n=n, line=line)

    def test_it_agrees_with_blocked(self):
        for _, n, line in drawn(122, 200):
            wanted = [
                i for i in range(len(line) - 1)
                if line[i] != line[i + 1] and blocked(n, line[i], line[i + 1]) is None
            ]
            self.assertEqual(may_change(n, line), tuple(wanted))

    def test_few_bays(self):
        for n in range(1, 9):
            check_returns(self, (), may_change, n=n, line=())
            check_returns(self, (), may_change, n=n, line=(full_book(n),))
            check_returns(self, (), may_change, n=n, line=((),) * 6)

    def test_like_books_beside_one_another_and_apart(self):
        check_returns(self, (), may_change, n=4, line=(A, A, A))
        check_returns(self, (1, 2), may_change, n=4, line=(A, A, C, A))
        check_returns(self, (0, 4), may_change, n=4, line=((), A, A, D, D, ()))


class Change(unittest.TestCase):

    def check(self, n, line, places):
        wanted = told_change(n, line, places)
        if wanted is None:
            check_error(self, Unfit(), change, n=n, line=line, places=places)
        else:
            check_returns(self, wanted, change, n=n, line=line, places=places)
        return wanted is not None

    def test_no_place_at_all(self):
        for _, n, line in drawn(123, 40):
            check_returns(self, line, change, n=n, line=line, places=())

    def test_one_place(self):
        for _, n, line in drawn(124, 160):
            for place in range(-2, len(line) + 2):
                self.check(n, line, (place,))

    def test_places_that_may_be_made(self):
        for draw, n, line in drawn(125, 160):
            self.assertTrue(self.check(n, line, draw_places(draw, n, line, 20)))

    def test_drawn_places(self):
        made = 0
        for draw, n, line in drawn(126, 400):
            places = draw_places(draw, n, line)
            places += tuple([draw.randint(-1, len(line)) for _ in range(draw.randint(0, 2))])
            made += self.check(n, line, places)
        self.assertGreater(made, 50)
        self.assertLess(made, 350)

    def test_places_below_0_at_the_last_bay_and_beyond(self):
        for place in (-1, -2, -3, 2, 3, 10 ** 30, -(10 ** 30)):
            check_error(self, Unfit(), change, n=4, line=(A, C, A), places=(place,))
            check_error(self, Unfit(), change, n=4, line=(A, C, A), places=(0, place))
        for place in (-1, 0, 1):
            check_error(self, Unfit(), change, n=4, line=(), places=(place,))
            check_error(self, Unfit(), change, n=4, line=(A,), places=(place,))

    def test_like_books(self):
        check_error(self, Unfit(), change, n=4, line=(A, A), places=(0,))
        check_error(self, Unfit(), change, n=4, line=((), ()), places=(0,))

    def test_a_place_is_judged_as_the_line_stands_then(self):
        # At 1 there are like books first, at 0 there are such then.
        check_error(self, Unfit(), change, n=4, line=(C, A, A), places=(1, 0))
        check_returns(self, (A, A, C), change, n=4, line=(C, A, A), places=(0, 1))
        check_error(self, Unfit(), change, n=4, line=(C, A, A), places=(0, 1, 0))
        # What could be made in the end does not help the first one.
        check_error(self, Unfit(), change, n=4, line=(A, A, C), places=(0, 1))

    def test_many_places(self):
        check_returns(self, (A, C), change, n=4, line=(A, C), places=(0,) * 1000)
        check_returns(self, (C, A), change, n=4, line=(A, C), places=(0,) * 1001)


class Live(unittest.TestCase):

    def check(self, n, line, ways, places):
        wanted = told_live(n, line, ways, places)
        if wanted is None:
            check_error(self, Unfit(), live, n=n, line=line, standings=ways, places=places)
        else:
            check_returns(self, wanted, live, n=n, line=line, standings=ways, places=places)
        return wanted

    def test_no_place_at_all(self):
        for draw, n, line in drawn(127, 40):
            way = draw.choice(standings(min(n, 2), len(line)))
            check_returns(self, (line, (way,)), live, n=n, line=line, standings=(way,), places=())
        ways = ((None, None), (0, None), (0, 1), (1, 0))
        check_returns(self, ((A, C), ways), live, n=4, line=(A, C), standings=ways, places=())
        check_returns(self, ((), ((),)), live, n=4, line=(), standings=((),), places=())

    def test_all_standings_of_all_lines_of_two_bays_and_three_kinds(self):
        for line in itertools.product(books_of(3)[::2] + [()], repeat=2):
            for way in standings(3, 2):
                self.check(3, line, (way,), (0,))

    def test_several_ways(self):
        ways = tuple(sorted(standings(4, 2), key=none_first))
        for line in ((A, C), (C, A), (SLOW, ()), ((), SLOW), (A, ())):
            for places in ((0,), (0, 0), (0, 0, 0)):
                self.check(4, line, ways, places)
        check_returns(
            self, ((C, A), ((None, None), (0, None), (0, 1), (1, 0))), live,
            n=4, line=(A, C), standings=((None, None), (0, None), (0, 1), (1, 0)), places=(0,))

    def test_drawn_lines_and_ways(self):
        none_left = 0
        for draw, n, line in drawn(128, 300):
            lot = {draw_standing(draw, n, line) for _ in range(draw.choice((1, 1, 2, 9)))}
            ways = tuple(sorted(lot, key=none_first))
            none_left += self.check(n, line, ways, draw_places(draw, n, line)) is None
        self.assertGreater(none_left, 0)

    def test_ways_that_come(self):
        more = 0
        for draw, n, line in drawn(129, 300, 4):
            row = draw_row(draw, n)
            way = told_run(line, (None,) * len(line), row)[0]
            told = self.check(n, line, (way,), draw_places(draw, n, line))
            more += len(told[1]) > 1
        self.assertGreater(more, 10)

    def test_a_way_that_goes_leaves_the_others(self):
        line, ways = live(3, (SLOW, (), ()), ((1, 0, 2),), (0,))
        self.assertEqual(ways, ((0, 1, 2), (1, 0, 2)))
        check_returns(
            self, (((), (), SLOW), ((0, 1, 2),)), live, n=3, line=line, standings=ways, places=(1,))
        check_error(self, Unfit(), live, n=3, line=line, standings=((1, 0, 2),), places=(1,))

    def test_places_that_may_not_be_made(self):
        for place in (-1, 1, 2, 10 ** 30):
            check_error(self, Unfit(), live, n=4, line=(A, C), standings=((None, None),), places=(place,))
        check_error(self, Unfit(), live, n=4, line=(A, A), standings=((None, None),), places=(0,))
        check_error(self, Unfit(), live, n=4, line=(A, D), standings=((None, None),), places=(0,))
        check_error(self, Unfit(), live, n=4, line=(A, C), standings=((None, None),), places=(0, 0, 1))
        check_error(self, Unfit(), live, n=4, line=(), standings=((),), places=(0,))

    def test_as_soon_as_no_way_is_left(self):
        check_error(self, Unfit(), live, n=4, line=(A, C), standings=((0, 1),), places=(0,))
        # Changed back the standing would be there again, but it does not come so far.
        check_error(self, Unfit(), live, n=4, line=(A, C), standings=((0, 1),), places=(0, 0))
        check_returns(self, ((A, C), ((0, 1),)), live, n=4, line=(A, C), standings=((0, 1),), places=())

    def test_no_way_comes_twice(self):
        # Like and turned lead both ways to one and the other.
        check_returns(
            self, ((C, A), ((0, 1), (1, 0))), live, n=4, line=(A, C), standings=((1, 0),), places=(0, 0, 0))

    def test_six_bays_of_eight_kinds(self):
        line = tuple([((x, y),) for x, y in ((0, 1), (2, 3), (4, 5), (6, 7))]) + ((), ((0, 1), (2, 3)))
        draw = chance(130)
        for _ in range(12):
            way = told_run(line, (None,) * 6, draw_row(draw, 8))[0]
            self.check(8, line, (way,), draw_places(draw, 8, line, 9))


class WhatHolds(unittest.TestCase):

    def test_whole_of_a_line_that_comes_is_whole_of_the_line(self):
        for draw, n, line in drawn(131, 300):
            behind = change(n, line, draw_places(draw, n, line, 9))
            row = draw_row(draw, n)
            self.assertEqual(told_whole(behind, row), told_whole(line, row), (line, behind, row))

    def check_goes_on_alike(self, line, standing, behind, ways, row):
        then, out = told_run(line, standing, row)
        wanted = (out, told_ending(line, then))
        for way in ways:
            then, out = told_run(behind, way, row)
            self.assertEqual((out, told_ending(behind, then)), wanted, (line, standing, behind, way, row))

    def test_all_standings_that_come_in_lines_of_three_bays(self):
        draw = chance(132)
        books = [(), A, D, SLOW, full_book(3), ((2, 0),)]
        for line in itertools.product(books, repeat=3):
            places = draw_places(draw, 3, line, 4)
            for standing in coming(3, line):
                behind, ways = line, (standing,)
                for place in places:
                    behind, ways = live(3, behind, ways, (place,))
                    self.assertGreater(len(ways), 0)
                self.check_goes_on_alike(line, standing, behind, ways, draw_row(draw, 3, 12))
                self.assertEqual(live(3, line, (standing,), places), (behind, ways))

    def test_drawn_lines_that_run_and_change_and_run_on(self):
        changes = 0
        for draw, n, line in drawn(133, 400):
            standing = told_run(line, (None,) * len(line), draw_row(draw, n))[0]
            places = draw_places(draw, n, line, 12)
            changes += len(places)
            behind, ways = line, (standing,)
            for place in places:
                behind, ways = live(n, behind, ways, (place,))
                self.check_goes_on_alike(line, standing, behind, ways, draw_row(draw, n, 20))
            self.assertEqual(behind, change(n, line, places))
        self.assertGreater(changes, 800)


if __name__ == "__main__":
    unittest.main()
