"""[A2](e), [A3] and [I1] to [I6] of the document: into rank."""

import itertools
import unittest

from baylines.books import book_error
from baylines.designs import design
from baylines.errors import TooMany
from baylines.ranks import fewest_full, first_to_rise, full, lifted, sorts_error
from baylines.rows import ahead
from tests.bays import told_ending, told_run, told_whole
from tests.drawn import books_of, chance, draw_book, draw_line, draw_row, full_book
from tests.examples import check
from tests.values import check_error, check_returns, outcome

EXAMPLES = """
    >>> from baylines.ranks import fewest_full, first_to_rise, full, lifted, sorts_error
    >>> full(3), full(1), fewest_full((2, 1, 0, 2, 1)), fewest_full((1, 1, 1, 0)), fewest_full((0, 1, 2)), fewest_full(()), fewest_full((1,) * 59 + (0,))
    (((0, 1), (0, 2), (1, 2)), (), 2, 3, 0, 0, 59)
    >>> full3, back = full(3), ((1, 0),)
    >>> sorts_error(3, (full3,), 2), sorts_error(3, (full3,), 4), sorts_error(3, (full3, full3), 4), sorts_error(3, (back, full3), 3), sorts_error(3, (), 3), sorts_error(3, (full3,), 1)
    (None, (1, 1, 0), (1, 1, 1, 0), (0, 1, 1), (1, 0), None)
    >>> lifted(3, ()), lifted(3, (full3,)), lifted(3, (full3, full3)), lifted(3, (back, full3)), lifted(3, (full3, back)), lifted(1, ((), ()))
    (1, 2, 3, 2, 1, None)
    >>> shelf = (((0, 1),), ((0, 2),), ((1, 2),))
    >>> first_to_rise(3, shelf, (2, 1, 0), 4), first_to_rise(3, shelf, (2, 1, 0), 2), first_to_rise(3, shelf, (1, 0, 2), 4), first_to_rise(3, shelf, (0, 1, 2), 4)
    ((0, 1, 2), None, (0,), ())
"""

FULL8 = full_book(8)

# (how many pairs P(k) has, n, line, k); no row of at most k things is told of these.
JUST_PAIRS = [
    (4000, 8, (
        ((0, 5), (0, 6), (0, 7), (1, 5), (1, 6), (1, 7), (2, 6), (2, 7), (3, 6), (5, 6), (5, 7)),
        ((0, 4), (0, 5), (0, 6), (0, 7), (1, 3), (1, 4), (1, 5), (1, 6), (1, 7), (2, 5), (3, 7), (4, 5), (4, 7), (6, 7)),
        FULL8, FULL8, FULL8, FULL8,
    ), 5),
    (4001, 8, (
        ((0, 2), (0, 3), (0, 4), (0, 5), (0, 6), (0, 7), (1, 2), (1, 3), (1, 4), (1, 5), (1, 6), (1, 7), (2, 5), (2, 6),
         (2, 7), (3, 6), (4, 5), (4, 6), (4, 7), (5, 6), (5, 7)),
        FULL8, FULL8, FULL8,
        ((0, 1), (0, 4), (0, 5), (0, 6), (0, 7), (1, 4), (1, 6), (1, 7), (2, 3), (2, 4), (2, 5), (2, 6), (2, 7), (3, 4),
         (3, 5), (3, 6), (3, 7), (6, 7)),
        FULL8,
    ), 6),
]

# A row of seven things is told, behind which P(7) has 8342 pairs.
LATE_PAIRS = (
    8, (FULL8, FULL8, FULL8, ((1, 4), (1, 5), (1, 7), (2, 6), (3, 5), (4, 7)), FULL8, FULL8), (1, 1, 1, 1, 1, 1, 0))


def rising(row):
    return all(one <= other for one, other in itertools.pairwise(row))


def first_unsorted(n, line, most):
    """Return the first one of the shortest rows of at most so many things that does not rise behind line, or None."""
    for many in range(most + 1):
        for row in itertools.product(range(n), repeat=many):
            if not rising(told_whole(line, row)):
                return row
    return None


def told_sorts(n, line, many):
    """Return what sorts_error has to do, by P(k) as the document tells it: a row, None, or "too many".

    Each pair (standing, last), last being (), or the last thing alone, is kept
    with the first row that leads there.
    """
    pairs, unrisen = {((None,) * len(line), ()): ()}, []
    for _ in range(many + 1):
        ends = [row for (standing, last), row in pairs.items() if not rising(last + told_ending(line, standing))]
        if unrisen + ends:
            return min(unrisen + ends)
        if len(pairs) > 4000:
            return "too many"
        behind, unrisen = {}, []
        for (standing, last), row in pairs.items():
            for kind in range(n):
                then, out = told_run(line, standing, (kind,))
                if rising(last + out):
                    pair = (then, (last + out)[-1:])
                    behind[pair] = min(row + (kind,), behind.get(pair, row + (kind,)))
                else:
                    unrisen.append(row + (kind,))
        pairs = behind
    return None


def draw_near_full(draw, n):
    """Return the full book of n, or one that lacks the pairs of some passers or one of the last ones."""
    drop = draw.sample(range(n), draw.choice((0, 0, 1, 2)) if n > 1 else 0)
    return tuple([pair for pair in full_book(n) if pair[0] not in drop])


def drawn(seed, many, kinds=4, bays=3):
    """Yield (draw, n, line) again and again, many of the bays being full."""
    draw = chance(seed)
    for count in range(many):
        n = count % kinds + 1
        books = [full_book(n), full_book(n), draw_near_full(draw, n), draw_book(draw, n), ()]
        yield draw, n, tuple([draw.choice(books) for _ in range(draw.randint(0, bays))])


class Examples(unittest.TestCase):

    def test_as_they_stand_in_the_document(self):
        check(self, EXAMPLES)


class Full(unittest.TestCase):

    def test_all_kinds(self):
        for n in range(1, 9):
            check_returns(self, full_book(n), full, n=n)
            self.assertIsNone(book_error(n, full(n)))
            self.assertEqual(full(n), tuple([(x, h) for x in range(n) for h in range(n) if x < h]))


class FewestFull(unittest.TestCase):

    def bays_needed(self, row):
        """Return how many full bays row needs, by sending it through one behind another."""
        needed = 0
        while not rising(row):
            row = told_whole((full_book(8),), row)
            needed += 1
        return needed

    def test_all_short_rows(self):
        for n, most in ((1, 6), (2, 8), (3, 6), (4, 5)):
            for many in range(most + 1):
                for row in itertools.product(range(n), repeat=many):
                    self.assertEqual(fewest_full(row), self.bays_needed(row), row)

    def test_drawn_rows(self):
        draw = chance(321)
        for count in range(200):
            row = draw_row(draw, count % 8 + 1)
            check_returns(self, self.bays_needed(row), fewest_full, row=row)

    def test_sixty_things(self):
        check_returns(self, 59, fewest_full, row=(7,) * 59 + (0,))
        check_returns(self, 0, fewest_full, row=(7,) * 60)
        check_returns(self, 1, fewest_full, row=(7,) + (0,) * 59)
        check_returns(self, 30, fewest_full, row=(1,) * 30 + (0,) * 30)
        check_returns(self, 58, fewest_full, row=(7, 7, 6) * 19 + (5, 0, 7))

    def test_it_is_the_greatest_number_of_greater_things_ahead(self):
        draw = chance(322)
        for count in range(100):
            row = draw_row(draw, count % 8 + 1) + (0,)
            numbers = [ahead(row, place) for place in range(len(row))]
            self.assertEqual(fewest_full(row), max(numbers))
            behind = told_whole((full_book(8),), row)
            left = sorted([ahead(behind, place) for place in range(len(row))])
            self.assertEqual(left, sorted([max(0, number - 1) for number in numbers]))

    def test_a_row_rises_behind_one_bay_less_than_it_has_things(self):
        draw = chance(323)
        for count in range(40):
            n = count % 8 + 1
            row = tuple([draw.randrange(n) for _ in range(count % 7 + 1)])
            self.assertLessEqual(fewest_full(row), len(row) - 1)
            self.assertTrue(rising(told_whole((full_book(n),) * (len(row) - 1), row)))


class SortsError(unittest.TestCase):

    def check_line(self, n, line, most):
        """Check sorts_error for each many up to most by going through all rows."""
        first = first_unsorted(n, line, most)
        for many in range(most + 1):
            wanted = first if first is not None and len(first) <= many else None
            check_returns(self, wanted, sorts_error, n=n, line=line, many=many)
        return first

    def test_one_bay_with_each_book_of_three_kinds(self):
        for book in books_of(3):
            self.check_line(3, (book,), 4)

    def test_two_bays_with_each_two_books_of_three_kinds(self):
        for line in itertools.product(books_of(3), repeat=2):
            first = first_unsorted(3, line, 4)
            self.assertIsNotNone(first)
            self.assertEqual(sorts_error(3, line, 4), first)
            self.assertEqual(sorts_error(3, line, len(first) - 1), None)

    def test_drawn_lines(self):
        lengths = set()
        for _, n, line in drawn(324, 160):
            lengths.add(len(self.check_line(n, line, 5 if n < 4 else 4) or ()))
        self.assertEqual(lengths, {0, 2, 3, 4, 5})

    def test_no_bay(self):
        check_returns(self, None, sorts_error, n=1, line=(), many=60)
        for n in range(2, 9):
            check_returns(self, (1, 0), sorts_error, n=n, line=(), many=60)
            check_returns(self, None, sorts_error, n=n, line=(), many=1)

    def test_no_thing_and_one(self):
        for n in range(1, 9):
            for line in ((), (full_book(n),), ((),) * 6, (full_book(n), ()) * 3):
                for many in (0, 1):
                    check_returns(self, None, sorts_error, n=n, line=line, many=many)

    def test_one_kind_and_sixty_things(self):
        for bays in range(7):
            check_returns(self, None, sorts_error, n=1, line=((),) * bays, many=60)

    def test_full_bays(self):
        for n in (2, 3):
            for bays in range(7):
                line = (full_book(n),) * bays
                row = (1,) * (bays + 1) + (0,)
                check_returns(self, row, sorts_error, n=n, line=line, many=60)
                check_returns(self, row, sorts_error, n=n, line=line, many=bays + 2)
                check_returns(self, None, sorts_error, n=n, line=line, many=bays + 1)

    def test_by_the_pairs_of_the_document(self):
        found = set()
        draw = chance(325)
        for _ in range(60):
            n = draw.randint(2, 8)
            line = tuple([draw_near_full(draw, n) for _ in range(draw.randint(0, {8: 4, 7: 5}.get(n, 6)))])
            found.add(self.check_told(n, line, draw.choice((2, 3, 4, 5, 8, 60))) is None)
        self.assertEqual(found, {True, False})

    def check_told(self, n, line, many):
        wanted = told_sorts(n, line, many)
        if wanted == "too many":
            check_error(self, TooMany(4000), sorts_error, n=n, line=line, many=many)
        else:
            check_returns(self, wanted, sorts_error, n=n, line=line, many=many)
        return wanted

    def test_just_as_many_pairs_as_may_be_and_one_more(self):
        for most, n, line, k in JUST_PAIRS:
            self.assertIsNone(self.check_told(n, line, k - 1))
            self.assertEqual(self.check_told(n, line, k), None if most == 4000 else "too many")
            self.check_told(n, line, k + 1)
            self.check_told(n, line, 60)

    def test_too_many_pairs_behind_as_many_things_as_the_row_told_has(self):
        # Behind four things there would be 4096 standings, but a row of two is told.
        self.assertEqual(self.check_told(8, ((),) * 6, 60), (1, 0))
        n, line, row = LATE_PAIRS
        self.assertEqual(self.check_told(n, line, 60), row)
        self.assertEqual(self.check_told(n, line, len(row)), row)
        self.assertEqual(self.check_told(n, line, len(row) - 1), None)


class Lifted(unittest.TestCase):

    def test_drawn_lines(self):
        numbers = set()
        for _, n, line in drawn(326, 160):
            first = first_unsorted(n, line, len(line) + 2)
            wanted = None if first is None else len(first) - 1
            numbers.add(wanted)
            check_returns(self, wanted, lifted, n=n, line=line)
        self.assertEqual(numbers, {None, 1, 2, 3, 4})

    def test_at_most_one_more_than_the_bays_and_just_so_with_full_ones(self):
        draw = chance(327)
        most = 0
        for count in range(300):
            n = count % 7 + 2
            bays = draw.randint(0, {2: 6, 3: 6, 4: 6, 5: 5}.get(n, 3))
            line = tuple([draw.choice((full_book(n), full_book(n), draw_near_full(draw, n))) for _ in range(bays)])
            told = lifted(n, line)
            self.assertLessEqual(told, bays + 1)
            self.assertGreaterEqual(told, 1)
            all_full = line == (full_book(n),) * bays
            self.assertIs(told == bays + 1, all_full, line)
            most += all_full
        self.assertGreater(most, 40)
        self.assertLess(most, 260)

    def test_full_bays(self):
        for n in range(2, 9):
            for bays in range(6):
                check_returns(self, bays + 1, lifted, n=n, line=(full_book(n),) * bays)
            self.assertEqual(lifted(n, (full_book(n),) * 6), 7)

    def test_each_line_of_two_kinds(self):
        for bays in range(5):
            for line in itertools.product(books_of(2), repeat=bays):
                self.assertIs(lifted(2, line) == bays + 1, line == (full_book(2),) * bays)

    def test_one_kind(self):
        for bays in range(7):
            check_returns(self, None, lifted, n=1, line=((),) * bays)

    def test_it_raises_where_sorts_error_of_eight_things_does(self):
        draw = chance(328)
        lines = [(n, line) for _, n, line, _ in JUST_PAIRS] + [LATE_PAIRS[:2]]
        for _ in range(10):
            n = draw.choice((5, 6, 7, 8))
            lines.append((n, tuple([draw_near_full(draw, n) for _ in range(draw.choice((4, 5, 6)))])))
        raised = 0
        for n, line in lines:
            told = outcome(sorts_error, n, line, 8)
            if told[0] == "raised":
                raised += 1
                check_error(self, TooMany(4000), lifted, n=n, line=line)
            else:
                check_returns(self, len(sorts_error(n, line, 8)) - 1, lifted, n=n, line=line)
        self.assertGreater(raised, 0)

    def test_a_thing_passes_one_thing_a_bay_at_most(self):
        draw = chance(329)
        for count in range(100):
            n = count % 7 + 2
            line = draw_line(draw, n)
            self.assertFalse(rising(told_whole(line, (1,) * (len(line) + 1) + (0,))))


class FirstToRise(unittest.TestCase):

    def test_it_is_design_for_the_rising_order(self):
        draw = chance(330)
        found = set()
        for count in range(160):
            n = count % 5 + 1
            shelf = tuple([draw_book(draw, n) for _ in range(draw.randint(1, 4))])
            row = draw_row(draw, n, draw.choice((0, 3, 6)))
            most = draw.randint(0, 8)
            told = outcome(design, n, shelf, ((row, tuple(sorted(row))),), most)
            found.add(told[1] if told[0] == "returned" else told[0])
            self.assertEqual(told, outcome(first_to_rise, n, shelf, row, most))
            if told[0] == "returned":
                check_returns(self, eval(told[1]), first_to_rise, n=n, shelf=shelf, row=row, most=most)
        self.assertGreater(len(found), 5)

    def test_full_books_on_the_shelf(self):
        for n in (2, 4, 8):
            for row in ((1, 1, 1, 0), (0, 1), (), (1,) * 8 + (0,), (0,) * 60, (1,) * 9 + (0,)):
                bays = fewest_full(row)
                wanted = (1,) * bays if bays <= 8 else None
                check_returns(self, wanted, first_to_rise, n=n, shelf=((), full_book(n)), row=row, most=8)

    def test_rows_that_rise(self):
        check_returns(self, (), first_to_rise, n=3, shelf=((),), row=(0, 0, 1, 2), most=0)
        check_returns(self, None, first_to_rise, n=3, shelf=(full_book(3),), row=(1, 0), most=0)

    def test_too_many_stands(self):
        draw = chance(331)
        row = tuple([draw.randrange(8) for _ in range(60)])
        shelf = tuple([draw_book(draw, 8) for _ in range(12)])
        self.assertEqual(outcome(design, 8, shelf, ((row, tuple(sorted(row))),), 8)[0], "raised")
        check_error(self, TooMany(4000), first_to_rise, n=8, shelf=shelf, row=row, most=8)


if __name__ == "__main__":
    unittest.main()
