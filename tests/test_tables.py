"""[A3], [D1], [D2], [D3] and [D5] of the document: tables."""

import itertools
import unittest

from baylines.errors import TooMany
from baylines.lines import empty, standing_error
from baylines.running import whole
from baylines.tables import merged, merged_number, table, table_whole
from tests.bays import coming, told_ending, told_run, told_whole
from tests.drawn import JUST_4000, JUST_4001, books_of, chance, draw_book, draw_line, draw_row, full_book
from tests.examples import check
from tests.values import check_error, check_returns

EXAMPLES = """
    >>> from baylines.tables import merged, merged_number, table, table_whole
    >>> quick, idle = ((0, 1),), ()
    >>> table(2, (quick,))
    (((None,), ((1, None), (2, None)), ()), ((0,), ((1, 0), (2, 0)), (0,)), ((1,), ((2, 0), (2, 1)), (1,)))
    >>> table_whole(table(2, (quick,)), (1, 0, 1, 0)), table(3, ()), [len(table(2, line)) for line in ((quick, quick), (idle, quick))]
    ((0, 1, 0, 1), (((), ((0, 0), (0, 1), (0, 2)), ()),), [6, 7])
    >>> merged_number(table(2, (quick, quick))), merged_number(table(2, (idle, quick)))
    ((0, 1, 2, 3, 4, 5), (0, 1, 2, 3, 4, 4, 5))
    >>> table(2, (idle, quick))[4], table(2, (idle, quick))[5]
    (((1, 0), ((5, 0), (6, 0)), (0, 1)), ((0, 1), ((5, 0), (6, 0)), (0, 1)))
    >>> merged(table(2, (idle, quick)))[4:], merged(table(2, (quick,)))
    (((((4, 0), (5, 0)), (0, 1)), (((4, 1), (5, 1)), (1, 1))), ((((1, None), (2, None)), ()), (((1, 0), (2, 0)), (0,)), (((2, 0), (2, 1)), (1,))))
"""

QUICK, IDLE = ((0, 1),), ()


def told_table(n, line):
    """What table has to return."""
    found = coming(n, line)
    numbers = {standing: number for number, standing in enumerate(found)}
    told = []
    for standing in found:
        nexts = []
        for kind in range(n):
            behind, out = told_run(line, standing, (kind,))
            nexts.append((numbers[behind], out[0] if out else None))
        told.append((standing, tuple(nexts), told_ending(line, standing)))
    return tuple(told)


def telling_apart(n, one, standing, other, other_standing):
    """Return how many things tell two standings apart, thing by thing or at the end; None if none do."""
    waiting = [(standing, other_standing, 0)]
    seen = {(standing, other_standing)}
    for standing, other_standing, many in waiting:
        if told_ending(one, standing) != told_ending(other, other_standing):
            return many
        for kind in range(n):
            behind, out = told_run(one, standing, (kind,))
            other_behind, other_out = told_run(other, other_standing, (kind,))
            if out != other_out:
                return many + 1
            if (behind, other_behind) not in seen:
                seen.add((behind, other_behind))
                waiting.append((behind, other_behind, many + 1))
    return None


def told_numbers(n, line):
    """What merged_number has to return of the table of line, each two standings held together."""
    lots = []
    numbers = []
    for standing in coming(n, line):
        alike = [at for at, one in enumerate(lots) if telling_apart(n, line, one, line, standing) is None]
        if not alike:
            alike = [len(lots)]
            lots.append(standing)
        numbers.append(alike[0])
    return tuple(numbers)


def told_merged(n, line):
    """What merged has to return of the table of line, of the last standing with each number."""
    told, numbers = told_table(n, line), told_numbers(n, line)
    last = {number: at for at, number in enumerate(numbers)}
    least = []
    for number in range(len(last)):
        _, nexts, rest = told[last[number]]
        least.append((tuple([(numbers[to], out) for to, out in nexts]), rest))
    return tuple(least)


def small_lines(seed, many, most):
    """Return so many pairs (n, line), n from 1 to 8, of which not more than most standings may come."""
    draw = chance(seed)
    found = []
    while len(found) < many:
        n = draw.randint(1, 8)
        line = draw_line(draw, n)
        if sum([n ** held for held in range(len(line) + 1)]) <= most:
            found.append((n, line))
    return found


class Examples(unittest.TestCase):

    def test_as_they_stand_in_the_document(self):
        check(self, EXAMPLES)


class Table(unittest.TestCase):

    def test_one_bay_with_each_book_of_three_kinds(self):
        for book in books_of(3):
            check_returns(self, told_table(3, (book,)), table, n=3, line=(book,))

    def test_two_bays_with_each_two_books_of_three_kinds(self):
        for line in itertools.product(books_of(3), repeat=2):
            self.assertEqual(table(3, line), told_table(3, line), line)

    def test_three_bays_of_two_kinds(self):
        for line in itertools.product(books_of(2), repeat=3):
            self.assertEqual(table(2, line), told_table(2, line), line)

    def test_drawn_lines(self):
        for n, line in small_lines(71, 120, 700):
            check_returns(self, told_table(n, line), table, n=n, line=line)

    def test_no_bay(self):
        for n in range(1, 9):
            nexts = tuple([(0, kind) for kind in range(n)])
            check_returns(self, (((), nexts, ()),), table, n=n, line=())

    def test_one_kind(self):
        for many in range(7):
            standings = [(0,) * held + (None,) * (many - held) for held in range(many + 1)]
            wanted = []
            for held, standing in enumerate(standings):
                out = 0 if held == many else None
                wanted.append((standing, ((min(held + 1, many), out),), (0,) * held))
            check_returns(self, tuple(wanted), table, n=1, line=((),) * many)

    def test_idle_bays_let_all_standings_come(self):
        for n, many in ((2, 6), (3, 6), (4, 5), (5, 5), (8, 3), (8, 1)):
            told = table(n, ((),) * many)
            self.assertEqual(len(told), sum([n ** held for held in range(many + 1)]))

    def test_few_of_all_standings_come(self):
        self.assertEqual(len(table(2, (QUICK, QUICK))), 6)
        for line in ((full_book(3),) * 6, (full_book(2),) * 6, (QUICK, IDLE) * 3):
            told = table(3, line)
            self.assertEqual(told, told_table(3, line))
            self.assertLess(len(told), sum([3 ** held for held in range(7)]))

    def test_just_as_many_as_may_be(self):
        n, line = JUST_4000
        told = table(n, line)
        self.assertEqual(len(told), 4000)
        self.assertEqual(told, told_table(n, line))
        self.assertEqual(len(merged(told)), len(set(merged_number(told))))

    def test_one_more_than_may_be(self):
        for n, line in JUST_4001:
            self.assertEqual(len(coming(n, line)), 4001)
            check_error(self, TooMany(4000), table, n=n, line=line)

    def test_far_more_than_may_be(self):
        draw = chance(72)
        for line in (((),) * 6, ((),) * 4, tuple([draw_book(draw, 4) for _ in range(3)]) + ((),) * 3):
            check_error(self, TooMany(4000), table, n=8, line=line)
        check_error(self, TooMany(4000), table, n=4, line=((),) * 6)
        check_error(self, TooMany(4000), table, n=8, line=((),) * 4)

    def test_just_where_more_come(self):
        draw = chance(73)
        for _ in range(12):
            n = draw.choice((5, 6, 7, 8))
            line = tuple([draw_book(draw, n) for _ in range({5: 5, 6: 5, 7: 5, 8: 4}[n])])
            many = len(coming(n, line))
            if many > 4000:
                check_error(self, TooMany(4000), table, n=n, line=line)
            else:
                self.assertEqual(len(table(n, line)), many)

    def test_the_standings_are_such_and_none_comes_twice(self):
        for n, line in small_lines(74, 60, 1500):
            told = table(n, line)
            standings = [standing for standing, _, _ in told]
            self.assertEqual(standings[0], empty(line))
            self.assertEqual(len(set(standings)), len(standings))
            for standing in standings:
                self.assertIsNone(standing_error(n, line, standing))

    def test_numbers_are_given_in_order(self):
        for n, line in small_lines(75, 60, 1500):
            told = table(n, line)
            met = [0]
            for _, nexts, _ in told:
                self.assertEqual(len(nexts), n)
                met += [to for to, _ in nexts if to not in met]
            self.assertEqual(met, list(range(len(told))))


class TableWhole(unittest.TestCase):

    def test_all_short_rows(self):
        for line in itertools.product(books_of(3)[::3] + [()], repeat=2):
            told = table(3, line)
            for many in range(5):
                for row in itertools.product(range(3), repeat=many):
                    self.assertEqual(table_whole(told, row), told_whole(line, row), (line, row))

    def test_drawn_lines_and_rows(self):
        draw = chance(76)
        for n, line in small_lines(77, 100, 1500):
            told = table(n, line)
            for most in (0, 1, 10, 60):
                row = draw_row(draw, n, most)
                check_returns(self, told_whole(line, row), table_whole, told=told, row=row)
                self.assertEqual(table_whole(told, row), whole(line, row))

    def test_sixty_things(self):
        draw = chance(78)
        for n, line in small_lines(79, 30, 1500):
            row = tuple([draw.randrange(n) for _ in range(60)])
            check_returns(self, told_whole(line, row), table_whole, told=table(n, line), row=row)

    def test_much_longer_rows(self):
        draw = chance(80)
        for n, line in small_lines(81, 12, 1500):
            row = tuple([draw.randrange(n) for _ in range(5000)])
            self.assertEqual(table_whole(table(n, line), row), told_whole(line, row))
        check_returns(self, (0, 1) * 20000, table_whole, told=table(2, (QUICK,)), row=(1, 0) * 20000)

    def test_no_thing(self):
        for n, line in small_lines(82, 20, 700):
            check_returns(self, (), table_whole, told=table(n, line), row=())

    def test_no_bay(self):
        check_returns(self, (2, 0, 1), table_whole, told=table(3, ()), row=(2, 0, 1))


class Merged(unittest.TestCase):

    def test_two_bays_with_each_two_books_of_two_kinds_and_more(self):
        books = books_of(2) + [((0, 2),), ((1, 2),), full_book(3)]
        for line in itertools.product(books, repeat=2):
            told = table(3, line)
            check_returns(self, told_numbers(3, line), merged_number, told=told)
            check_returns(self, told_merged(3, line), merged, told=told)

    def test_drawn_lines(self):
        for n, line in small_lines(83, 60, 160):
            told = table(n, line)
            check_returns(self, told_numbers(n, line), merged_number, told=told)
            check_returns(self, told_merged(n, line), merged, told=told)

    def test_no_bay(self):
        check_returns(self, (0,), merged_number, told=table(2, ()))
        check_returns(self, ((((0, 0), (0, 1)), ()),), merged, told=table(2, ()))

    def test_idle_bays_keep_all_standings_apart(self):
        told = table(2, ((),) * 4)
        check_returns(self, tuple(range(31)), merged_number, told=told)
        wanted = tuple([(nexts, rest) for _, nexts, rest in told])
        check_returns(self, wanted, merged, told=told)

    def test_bays_with_idle_ones_ahead_and_behind(self):
        for line in ((IDLE, IDLE, QUICK), (IDLE, QUICK, IDLE), (IDLE,) * 4 + (QUICK, ((1, 0),))):
            told = table(2, line)
            self.assertEqual(merged_number(told), told_numbers(2, line))
            self.assertLess(len(merged(told)), len(told))

    def test_numbers_of_new_standings_rise_by_one(self):
        for n, line in small_lines(84, 60, 1500):
            most = -1
            for number in merged_number(table(n, line)):
                self.assertLessEqual(number, most + 1)
                most = max(most, number)

    def test_unlike_numbers_are_told_apart_by_few_things(self):
        for n, line in small_lines(85, 25, 100):
            told = table(n, line)
            numbers = merged_number(told)
            for one, other in itertools.combinations(range(len(told)), 2):
                many = telling_apart(n, line, told[one][0], line, told[other][0])
                if numbers[one] == numbers[other]:
                    self.assertIsNone(many)
                else:
                    self.assertLess(many, len(set(numbers)))

    def test_the_least_table_makes_what_the_line_makes(self):
        draw = chance(86)
        for n, line in small_lines(87, 80, 1500):
            least = merged(table(n, line))
            row = draw_row(draw, n)
            number, came_out = 0, []
            for thing in row:
                number, out = least[number][0][thing]
                came_out += [] if out is None else [out]
            self.assertEqual(tuple(came_out) + least[number][1], told_whole(line, row))


class TwoLines(unittest.TestCase):

    def same_thing_by_thing(self, n, one, other):
        apart = telling_apart(n, one, empty(one), other, empty(other))
        return apart is None

    def test_all_lines_of_two_kinds(self):
        lines = [line for many in range(4) for line in itertools.product(books_of(2), repeat=many)]
        found = {line: merged(table(2, line)) for line in lines}
        for one, other in itertools.combinations_with_replacement(lines, 2):
            self.assertEqual(found[one] == found[other], self.same_thing_by_thing(2, one, other), (one, other))

    def test_lines_of_two_bays_and_three_kinds(self):
        lines = list(itertools.product(books_of(3)[::2], repeat=2))
        found = {line: merged(table(3, line)) for line in lines}
        alike = 0
        for one, other in itertools.combinations(lines, 2):
            same = self.same_thing_by_thing(3, one, other)
            self.assertEqual(found[one] == found[other], same, (one, other))
            alike += same
        self.assertGreater(alike, 10)

    def test_the_same_row_sooner_or_later(self):
        # Both lines make each row of itself, but an idle bay gives it out later.
        self.assertNotEqual(merged(table(2, ())), merged(table(2, (IDLE,))))
        self.assertNotEqual(merged(table(2, (IDLE,))), merged(table(2, (IDLE, IDLE))))
        self.assertEqual(merged(table(2, (IDLE, QUICK))), merged(table(2, (QUICK, IDLE))))


if __name__ == "__main__":
    unittest.main()
