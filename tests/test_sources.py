"""[A2](e), [A3] and [H1] to [H5] of the document: sources of rows."""

import bisect
import collections
import itertools
import math
import unittest

from baylines.errors import TooMany, Unfit
from baylines.sameness import parted
from baylines.sources import can_come, fixed, reached, source, sources
from tests.bays import told_ending, told_run, told_whole
from tests.drawn import books_of, chance, draw_book, draw_line, draw_row, drawn_lines, full_book
from tests.examples import check
from tests.values import check_error, check_returns, nested, no_kinds, outcome

EXAMPLES = """
    >>> from baylines.sources import can_come, fixed, reached, source, sources
    >>> full3, back = ((0, 1), (0, 2), (1, 2)), ((1, 0),)
    >>> sources(3, (full3,), (0, 1, 2)), sources(3, (full3, full3), (0, 1, 2)), sources(3, (full3,), (2, 1, 0)), sources(3, (), (2, 1, 0)), sources(3, (full3,), ())
    (4, 6, 0, 1, 1)
    >>> [source(3, (full3,), (0, 1, 2), number) for number in range(4)]
    [(0, 1, 2), (0, 2, 1), (1, 0, 2), (2, 0, 1)]
    >>> can_come(3, (full3,), (1, 0, 2)), can_come(3, (full3,), (2, 1, 0)), sources(2, (((0, 1),),), (0, 1, 0, 1)), source(2, (((0, 1),),), (0, 1, 0, 1), 1)
    (True, False, 2, (1, 0, 1, 0))
    >>> source(3, (full3,), (0, 1, 2), 4)
    raises Unfit()
    >>> source(3, (full3,), (0, 1, 2), True)
    raises Unfit()
    >>> fixed(3, (full3,), 3), reached(3, (full3,), 3), fixed(3, (back,), 3), reached(3, (back,), 3), fixed(3, (full3, full3), 4), reached(3, (full3, full3), 4)
    (10, 14, 21, 22, 15, 20)
    >>> fixed(3, (), 4), reached(3, (), 4), fixed(3, (full3,), 0), reached(3, (full3,), 0)
    (81, 81, 1, 1)
    >>> reached(2, (((0, 1),),), 8), fixed(2, (((0, 1),),), 60), reached(3, (full3,), 7)
    (129, 61, 794)
"""

QUICK, FULL3 = ((0, 1),), full_book(3)
IDLE4 = ((),) * 4

# (most standings that some S(k) has, n, line, row).
JUST_STAGES = [
    (4000, 7, (
        ((1, 0), (3, 0), (3, 2), (4, 0), (5, 0), (5, 1), (5, 2), (5, 3), (5, 6), (6, 0), (6, 1), (6, 2), (6, 3)),
        ((1, 0), (1, 2), (2, 0), (3, 0), (3, 2), (4, 0), (4, 2), (4, 6), (5, 0), (5, 1), (5, 2), (5, 6), (6, 0), (6, 2)),
        ((0, 2), (5, 1)), ((0, 6),),
        ((0, 1), (0, 2), (0, 3), (0, 4), (0, 5), (0, 6), (1, 4), (1, 5), (2, 1), (2, 3), (2, 4), (2, 5), (2, 6), (3, 1),
         (3, 4), (3, 5), (3, 6), (4, 5), (6, 1), (6, 4), (6, 5)),
    ), (4, 3, 1, 6, 6)),
    (4001, 5, (
        ((4, 2),), ((0, 2), (0, 4), (1, 0), (1, 2), (1, 4), (2, 4), (3, 0), (3, 2), (3, 4)), (), ((1, 3),),
        ((0, 4), (2, 3)), ((1, 2),),
    ), (1, 0, 0, 4, 0, 0, 0)),
    (4001, 7, (
        ((1, 3), (1, 4), (1, 5), (3, 4), (5, 3), (5, 4)),
        ((0, 3), (0, 6), (1, 0), (1, 3), (1, 6), (2, 0), (2, 1), (2, 3), (2, 6), (3, 6), (4, 0), (4, 1), (4, 2), (4, 3),
         (4, 6), (5, 0), (5, 1), (5, 2), (5, 3), (5, 4), (5, 6)),
        ((3, 1), (3, 4), (6, 2)), ((0, 5),), ((0, 1), (0, 2), (4, 1), (4, 2), (5, 1), (5, 3)),
    ), (1, 4, 0, 5, 3)),
]

# (most unlike pairs (standing, waiting) behind some k things, n, line, many).
JUST_PAIRS = [
    (4000, 5, (
        ((2, 1), (3, 1), (4, 1), (4, 2), (4, 3)), ((2, 1), (4, 0)), ((0, 2), (0, 3), (3, 2), (4, 1)),
        ((0, 4), (2, 4), (3, 4)), ((0, 2), (0, 4), (1, 0), (1, 2), (1, 4), (3, 2), (4, 2)),
    ), 8),
    (4001, 5, (
        ((2, 1), (3, 0), (3, 1), (3, 2), (4, 0), (4, 1), (4, 2)), ((0, 2), (3, 2), (3, 4)), ((1, 2), (1, 4), (3, 4)),
        ((0, 3), (1, 2), (1, 3), (1, 4), (2, 3)), ((0, 3), (0, 4), (4, 3)),
    ), 8),
]

# (most standings of the unlike lots behind some k things, n, line, many).
JUST_LOTS = [
    (4000, 5, (((3, 1),), ((1, 2), (1, 3), (4, 1), (4, 2), (4, 3)), ((0, 3), (0, 4), (1, 2)), ((0, 2), (4, 0), (4, 1), (4, 2))), 6),
    (4001, 5, (
        ((1, 2), (1, 3), (3, 2), (4, 0), (4, 1), (4, 2), (4, 3)), ((1, 4), (3, 4)),
        ((2, 3), (4, 0), (4, 1), (4, 2), (4, 3)), (), ((1, 0),),
        ((0, 1), (2, 0), (2, 1), (3, 0), (3, 1), (3, 2), (3, 4), (4, 0), (4, 1)),
    ), 6),
]


def rows(n, many):
    """Return all rows of n with many things, ascending."""
    return list(itertools.product(range(n), repeat=many))


def told_sources(n, line, many):
    """Return a dict: for each row of many things that comes the ascending list of its sources."""
    found = collections.defaultdict(list)
    for row in rows(n, many):
        found[told_whole(line, row)].append(row)
    return found


def stage_sizes(n, line, row):
    """Return how many standings each S(k) has, up to the first one with more than 4000."""
    stage = {(None,) * len(line)}
    sizes = [1]
    for place in range(len(row)):
        came = [told_run(line, standing, (kind,)) for standing in stage for kind in range(n)]
        # What came out ahead is row's beginning, so only what comes out now is asked.
        due = row[place - len(line):place - len(line) + 1] if place >= len(line) else ()
        stage = {standing for standing, out in came if out == due}
        sizes.append(len(stage))
        if sizes[-1] > 4000:
            break
    return sizes


def count_sources(n, line, row):
    """Return how many sources row has: for each standing how many beginnings lead there is counted."""
    counts = {((None,) * len(line), 0): 1}
    for _ in row:
        behind = collections.Counter()
        for (standing, many), count in counts.items():
            for kind in range(n):
                then, out = told_run(line, standing, (kind,))
                if out == row[many:many + len(out)]:
                    behind[then, many + len(out)] += count
        counts = behind
    return sum(count for (standing, many), count in counts.items() if told_ending(line, standing) == row[many:])


def count_fixed(n, line, many):
    """Return (how many unlike pairs (standing, waiting) there are behind each k things, how many rows stay).

    It ends at the first k with more than 4000 pairs.
    """
    pairs = {((None,) * len(line), ()): 1}
    sizes = [1]
    for _ in range(many):
        behind = collections.Counter()
        for (standing, waiting), count in pairs.items():
            for kind in range(n):
                then, out = told_run(line, standing, (kind,))
                if out == (waiting + (kind,))[:len(out)]:
                    behind[then, (waiting + (kind,))[len(out):]] += count
        pairs = behind
        sizes.append(len(pairs))
        if sizes[-1] > 4000:
            break
    return sizes, sum(count for (standing, waiting), count in pairs.items() if told_ending(line, standing) == waiting)


def pair_sizes(n, line, many):
    """Return how many unlike pairs (standing, waiting) there are behind each k things, as far as they are few."""
    return count_fixed(n, line, many)[0]


def lot_sizes(n, line, many):
    """Return how many standings the unlike lots have behind each k things, up to the first more than 4000."""
    lots = {frozenset({(None,) * len(line)})}
    sizes = [1]
    for _ in range(many):
        behind = set()
        for lot in lots:
            came = [told_run(line, standing, (kind,)) for standing in lot for kind in range(n)]
            for out in {out for _, out in came}:
                behind.add(frozenset([then for then, other in came if other == out]))
        lots = behind
        sizes.append(sum(len(lot) for lot in lots))
        if sizes[-1] > 4000:
            break
    return sizes


def small(seed, many, most=700, kinds=8, bays=6):
    """Yield (draw, n, line, things) again and again, there being at most most rows of so many things."""
    draw = chance(seed)
    for count in range(many):
        n = count % kinds + 1
        things = draw.randint(0, 5 if n == 1 else int(math.log(most, n)))
        yield draw, n, draw_line(draw, n, bays), things


class Examples(unittest.TestCase):

    def test_as_they_stand_in_the_document(self):
        check(self, EXAMPLES)


class Sources(unittest.TestCase):

    def check_all(self, n, line, many):
        """Check sources, source and can_come for all rows of many things."""
        told = told_sources(n, line, many)
        for row in rows(n, many):
            self.assertEqual(sources(n, line, row), len(told[row]), (line, row))
            self.assertIs(can_come(n, line, row), bool(told[row]), (line, row))
            found = [source(n, line, row, number) for number in range(len(told[row]))]
            self.assertEqual(found, told[row], (line, row))
            check_error(self, Unfit(), source, n=n, line=line, row=row, number=len(told[row]))

    def test_one_bay_with_each_book_of_three_kinds(self):
        for book in books_of(3):
            for many in range(5):
                self.check_all(3, (book,), many)

    def test_two_bays_of_two_kinds(self):
        for line in itertools.product(books_of(2), repeat=2):
            for many in range(6):
                self.check_all(2, line, many)

    def test_drawn_lines(self):
        for _, n, line, many in small(301, 48, 100):
            self.check_all(n, line, many)

    def test_drawn_rows_of_drawn_lines(self):
        for draw, n, line, many in small(302, 120):
            told = told_sources(n, line, many)
            for row in draw.sample(rows(n, many), min(3, n ** many)):
                check_returns(self, len(told[row]), sources, n=n, line=line, row=row)
                check_returns(self, bool(told[row]), can_come, n=n, line=line, row=row)
                for number, begun in enumerate(told[row][:5]):
                    check_returns(self, begun, source, n=n, line=line, row=row, number=number)

    def test_no_bay(self):
        for n in range(1, 9):
            row = tuple([kind % n for kind in range(60)])
            check_returns(self, 1, sources, n=n, line=(), row=row)
            check_returns(self, row, source, n=n, line=(), row=row, number=0)
            check_error(self, Unfit(), source, n=n, line=(), row=row, number=1)

    def test_no_thing(self):
        for line in ((), (FULL3,), (FULL3,) * 6, ((),) * 6, (QUICK, ()) * 3):
            check_returns(self, 1, sources, n=3, line=line, row=())
            check_returns(self, (), source, n=3, line=line, row=(), number=0)
            check_returns(self, True, can_come, n=3, line=line, row=())

    def test_fewer_things_than_bays(self):
        for many in (1, 2, 3):
            self.check_all(3, (FULL3,) * 6, many)
            self.check_all(3, (QUICK, (), FULL3, ((2, 0),), (), FULL3), many)

    def test_one_kind(self):
        for bays in range(7):
            for many in (0, 1, 5, 60):
                check_returns(self, 1, sources, n=1, line=((),) * bays, row=(0,) * many)
                check_returns(self, (0,) * many, source, n=1, line=((),) * bays, row=(0,) * many, number=0)

    def test_sixty_things(self):
        draw = chance(303)
        for count in range(40):
            n = count % 4 + 1
            line = draw_line(draw, n, 4)
            begun = tuple([draw.randrange(n) for _ in range(60)])
            row = told_whole(line, begun)
            many = count_sources(n, line, row)
            check_returns(self, many, sources, n=n, line=line, row=row)
            numbers = sorted({0, many - 1} | {draw.randrange(many) for _ in range(6)})
            found = [source(n, line, row, number) for number in numbers]
            self.assertEqual(found, sorted(set(found)))
            self.assertEqual({told_whole(line, one) for one in found}, {row})
            check_error(self, Unfit(), source, n=n, line=line, row=row, number=many)
            # As sources ascend, the row that was sent is found among them.
            at = bisect.bisect_left(range(many), begun, key=lambda number: source(n, line, row, number))
            check_returns(self, begun, source, n=n, line=line, row=row, number=at)

    def test_sixty_things_that_do_not_come(self):
        for row in ((1,) + (0,) * 59, (2,) * 59 + (0,), (0, 1, 2) * 19 + (2, 1, 0)):
            check_returns(self, 0, sources, n=3, line=(FULL3,), row=row)
            check_returns(self, False, can_come, n=3, line=(FULL3,), row=row)
            check_error(self, Unfit(), source, n=3, line=(FULL3,), row=row, number=0)

    def test_very_many_sources(self):
        # Six full bays bring far more rows into rising order than could be gone through.
        line, row = (full_book(8),) * 6, tuple(sorted([kind % 8 for kind in range(60)]))
        many = sources(8, line, row)
        self.assertGreater(many, 10 ** 20)
        found = [source(8, line, row, many * part // 7) for part in range(7)] + [source(8, line, row, many - 1)]
        self.assertEqual(found, sorted(set(found)))
        self.assertEqual({told_whole(line, one) for one in found}, {row})
        self.assertEqual(found[0], row)
        check_error(self, Unfit(), source, n=8, line=line, row=row, number=many)

    def test_numbers_of_every_sort(self):
        row = (0, 1, 2)
        for number in no_kinds(4) + [nested(7), (0, 1), "1", 4, 5, 10 ** 30, 1 - 10 ** 30]:
            check_error(self, Unfit(), source, n=3, line=(FULL3,), row=row, number=number)
        for number in no_kinds(1):
            check_error(self, Unfit(), source, n=3, line=(), row=row, number=number)
        for number in no_kinds(1) + [0]:
            check_error(self, Unfit(), source, n=3, line=(FULL3,), row=(2, 1, 0), number=number)

    def check_too_many(self, n, line, row, sizes):
        """Check that TooMany is raised if one of sizes is too great, and only then."""
        if max(sizes) > 4000:
            for call in (sources, can_come):
                check_error(self, TooMany(4000), call, n=n, line=line, row=row)
            for number in (0, None, -1, 10 ** 30):
                check_error(self, TooMany(4000), source, n=n, line=line, row=row, number=number)
        else:
            many = count_sources(n, line, row)
            check_returns(self, many, sources, n=n, line=line, row=row)
            check_returns(self, many > 0, can_come, n=n, line=line, row=row)
        return max(sizes) > 4000

    def test_just_as_many_standings_as_may_be_and_one_more(self):
        for most, n, line, row in JUST_STAGES:
            sizes = stage_sizes(n, line, row)
            self.assertEqual(max(sizes), most)
            self.assertEqual(self.check_too_many(n, line, row, sizes), most == 4001)

    def test_far_more_standings_than_may_be(self):
        for row in ((0,) * 4, (7, 6, 5, 4), (0,) * 60):
            check_error(self, TooMany(4000), sources, n=8, line=IDLE4, row=row)
            check_error(self, TooMany(4000), source, n=8, line=IDLE4, row=row, number="0")
            check_error(self, TooMany(4000), can_come, n=8, line=IDLE4 + (FULL3,), row=row)

    def test_too_many_standings_hang_on_how_many_things_there_are(self):
        # Behind three things there are 512 standings, behind four there would be 4096.
        check_returns(self, 1, sources, n=8, line=IDLE4, row=(7, 6, 5))
        check_error(self, TooMany(4000), sources, n=8, line=IDLE4, row=(7, 6, 5, 4))
        check_returns(self, 1, sources, n=8, line=((),) * 3, row=(7, 6, 5, 4) * 15)

    def test_also_standings_from_which_the_rest_never_comes(self):
        # Behind a full bay no row ends with a 4, and a 7 ahead, but S(4) has its standings all the same.
        line = IDLE4 + (full_book(8),)
        self.assertEqual(stage_sizes(8, line, (7, 6, 5, 4)), [1, 8, 64, 512, 4096])
        check_error(self, TooMany(4000), can_come, n=8, line=line, row=(7, 6, 5, 4))
        check_error(self, TooMany(4000), source, n=8, line=line, row=(7, 6, 5, 4), number=0)

    def test_just_where_more_come(self):
        draw = chance(304)
        raised = 0
        for _ in range(16):
            n = draw.choice((5, 6, 7, 8))
            line = tuple([draw.choice((draw_book(draw, n), ())) for _ in range({5: 6, 6: 5, 7: 5, 8: 4}[n])])
            row = told_whole(line, tuple([draw.randrange(n) for _ in range(draw.choice((4, 5, 6, 9)))]))
            raised += self.check_too_many(n, line, row, stage_sizes(n, line, row))
        self.assertGreater(raised, 2)
        self.assertLess(raised, 14)


class FixedAndReached(unittest.TestCase):

    def check_all(self, n, line, many):
        told = told_sources(n, line, many)
        self.assertEqual(fixed(n, line, many), sum(row in told[row] for row in rows(n, many)), (line, many))
        self.assertEqual(reached(n, line, many), sum(bool(lot) for lot in told.values()), (line, many))

    def test_one_bay_with_each_book_of_three_kinds(self):
        for book in books_of(3):
            for many in range(6):
                self.check_all(3, (book,), many)

    def test_two_bays_with_each_two_books_of_three_kinds(self):
        for line in itertools.product(books_of(3)[::2], repeat=2):
            self.check_all(3, line, 4)

    def test_three_bays_of_two_kinds(self):
        for line in itertools.product(books_of(2), repeat=3):
            for many in (2, 3, 4, 7):
                self.check_all(2, line, many)

    def test_drawn_lines(self):
        for _, n, line, many in small(305, 160):
            told = told_sources(n, line, many)
            stay = sum(row in told[row] for row in rows(n, many))
            come = sum(bool(lot) for lot in told.values())
            # There are no more pairs, nor standings of lots, than rows, so never too many.
            check_returns(self, stay, fixed, n=n, line=line, many=many)
            check_returns(self, come, reached, n=n, line=line, many=many)

    def test_no_thing_and_one(self):
        for n in range(1, 9):
            for line in ((), (full_book(n),), (full_book(n), ()) * 3, ((),) * 6):
                for call in (fixed, reached):
                    check_returns(self, 1, call, n=n, line=line, many=0)
                    check_returns(self, n, call, n=n, line=line, many=1)

    def test_no_bay(self):
        for n in range(1, 9):
            check_returns(self, n ** 60, fixed, n=n, line=(), many=60)
            check_returns(self, n ** 60, reached, n=n, line=(), many=60)

    def test_one_full_bay(self):
        for n in range(1, 9):
            for many in (1, 2, 3, 7, 60):
                come = sum(kind ** (many - 1) for kind in range(1, n + 1))
                check_returns(self, come, reached, n=n, line=(full_book(n),), many=many)
                check_returns(self, math.comb(n + many - 1, many), fixed, n=n, line=(full_book(n),), many=many)

    def test_idle_bays(self):
        for n, bays in ((2, 6), (3, 4), (8, 2), (1, 6)):
            check_returns(self, n ** 60, reached, n=n, line=((),) * bays, many=60)
            check_returns(self, n ** 60, fixed, n=n, line=((),) * bays, many=60)

    def test_sixty_things(self):
        # By full bays a row stays just if it rises.
        for n in range(2, 6):
            line = (full_book(n),) * 3
            check_returns(self, math.comb(n + 59, 60), fixed, n=n, line=line, many=60)
        # By 0 passing 1 alone a row stays if no 0 comes while a 1 is held.
        check_returns(self, 61, fixed, n=2, line=(QUICK,), many=60)
        check_returns(self, 2 ** 59 + 1, reached, n=2, line=(QUICK,), many=60)

    def test_just_as_many_pairs_as_may_be_and_one_more(self):
        for most, n, line, many in JUST_PAIRS:
            sizes, stay = count_fixed(n, line, many)
            self.assertEqual(max(sizes), most)
            if most > 4000:
                check_error(self, TooMany(4000), fixed, n=n, line=line, many=many)
            else:
                check_returns(self, stay, fixed, n=n, line=line, many=many)

    def test_just_as_many_standings_of_lots_as_may_be_and_one_more(self):
        for most, n, line, many in JUST_LOTS:
            self.assertEqual(max(lot_sizes(n, line, many)), most)
            if most > 4000:
                check_error(self, TooMany(4000), reached, n=n, line=line, many=many)
            else:
                come = len({told_whole(line, row) for row in rows(n, many)})
                check_returns(self, come, reached, n=n, line=line, many=many)

    def test_far_more_than_may_be(self):
        for many in (4, 5, 60):
            for call in (fixed, reached):
                check_error(self, TooMany(4000), call, n=8, line=IDLE4, many=many)
                check_error(self, TooMany(4000), call, n=8, line=((),) * 6, many=many)
        check_returns(self, 512, fixed, n=8, line=IDLE4, many=3)
        check_returns(self, 512, reached, n=8, line=IDLE4, many=3)

    def test_just_where_more_come(self):
        draw = chance(306)
        raised = collections.Counter()
        for _ in range(20):
            n = draw.choice((3, 4, 5, 6, 7, 8))
            line = draw_line(draw, n, {3: 6, 4: 6, 5: 6, 6: 5, 7: 5, 8: 4}[n])
            many = draw.choice((4, 5, 7))
            for call, sizes in ((fixed, pair_sizes), (reached, lot_sizes)):
                too_many = max(sizes(n, line, many)) > 4000
                if too_many:
                    check_error(self, TooMany(4000), call, n=n, line=line, many=many)
                else:
                    self.assertEqual(outcome(call, n, line, many)[0], "returned")
                raised[call.__name__, too_many] += 1
        self.assertEqual(len(raised), 4, raised)


class WhatHolds(unittest.TestCase):

    def test_sources_of_all_rows_add_up(self):
        for _, n, line, many in small(307, 100, 400):
            self.assertEqual(sum(sources(n, line, row) for row in rows(n, many)), n ** many)

    def test_reached_counts_the_rows_that_can_come(self):
        for _, n, line, many in small(308, 100, 400):
            come = [row for row in rows(n, many) if can_come(n, line, row)]
            self.assertEqual(reached(n, line, many), len(come))
            self.assertLessEqual(fixed(n, line, many), len(come))

    def test_a_row_has_the_things_of_its_sources(self):
        for draw, n, line, many in small(309, 100):
            row = told_whole(line, draw_row(draw, n, many))
            for number in range(min(4, sources(n, line, row))):
                self.assertEqual(sorted(source(n, line, row, number)), sorted(row))

    def test_one_line_behind_another(self):
        for draw, n, line, many in small(310, 60, 100):
            at = draw.randint(0, len(line))
            for row in draw.sample(rows(n, many), min(6, n ** many)):
                middle = [source(n, line[at:], row, number) for number in range(sources(n, line[at:], row))]
                found = [
                    source(n, line[:at], one, number) for one in middle for number in range(sources(n, line[:at], one))
                ]
                wanted = [source(n, line, row, number) for number in range(sources(n, line, row))]
                self.assertEqual(sorted(found), wanted)

    def test_one_full_bay(self):
        for n, many in ((2, 6), (3, 5), (4, 4), (8, 3)):
            for row in rows(n, many):
                self.assertIs(can_come(n, (full_book(n),), row), row[-1] == max(row))

    def test_lines_that_do_the_same(self):
        same = 0
        for draw, n, one, other in drawn_lines(311, 240, 4, 4):
            if one != other and parted(n, one, other) is None:
                same += 1
                many = draw.choice((3, 5, 9))
                for call in (fixed, reached):
                    found = [outcome(call, n, line, many) for line in (one, other)]
                    if [told for told, *_ in found] == ["returned", "returned"]:
                        self.assertEqual(found[0], found[1], (one, other))
                row = told_whole(one, draw_row(draw, n, 9))
                self.assertEqual(sources(n, one, row), sources(n, other, row))
                number = draw.randrange(sources(n, one, row))
                self.assertEqual(source(n, one, row, number), source(n, other, row, number))
        self.assertGreater(same, 30)


if __name__ == "__main__":
    unittest.main()
