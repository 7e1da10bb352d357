"""[A2](e), [A3] and [J1] to [J6] of the document: designs."""

import itertools
import unittest

from baylines.designs import all_tuples, design, design_error, never, tuples, wanted_error
from baylines.errors import TooMany
from tests.bays import told_whole
from tests.drawn import books_of, chance, draw_book, draw_row, full_book
from tests.examples import check
from tests.values import check_error, check_returns, nested, no_kinds, no_tuples, outcome

EXAMPLES = """
    >>> from baylines.designs import all_tuples, design, design_error, never, tuples, wanted_error
    >>> low = ((2, 1, 0), (0, 1, 2))
    >>> [wanted_error(3, value) for value in ((low,), (low, ((), ())), (), (low, ((0, 3), (3, 0))), (low, ((0, 1), (0, 0))), [low], (list(low),))]
    [None, None, 'form', ('pair', 1), ('things', 1), 'form', ('pair', 0)]
    >>> shelf = (((0, 1),), ((0, 2),), ((1, 2),))
    >>> design(3, shelf, (low,), 4), design(3, shelf, (low,), 2), design(3, shelf, (((2, 1, 0), (1, 2, 0)),), 4), design(3, shelf, ((low[1], low[0]),), 4)
    ((0, 1, 2), None, (2,), None)
    >>> both = (((2, 1, 0), (0, 2, 1)), ((1, 2, 0), (0, 1, 2)))
    >>> design(3, shelf, both, 4), design(3, shelf, (low, ((), ())), 3), design(3, shelf, ((low[1], low[1]),), 0)
    ((0, 1, 0), (0, 1, 2), ())
    >>> [design_error(3, shelf, both, value) for value in ((0, 1, 0), (0, 1), (0, 1, 0, 0), (0, 1, 3), [0, 1, 0], (0, True), None)]
    [None, ('wanted', 1), None, 'form', 'form', 'form', 'form']
    >>> tuples(3, shelf, (low[0],), 4), tuples(3, shelf, ((2, 1, 0), (1, 2, 0)), 4), tuples(3, shelf, (low[1],), 2)
    ((1, 2, 2, 1, 0), (1, 3, 4, 4, 1), (1, 0, 0))
    >>> all_tuples(3, shelf[:2], (low[0],)), all_tuples(2, (((0, 1),), ((1, 0),)), ((0, 0, 1),))
    ((((0, 2, 1),), ((2, 0, 1),), ((2, 1, 0),)), (((0, 0, 1),), ((0, 1, 0),), ((1, 0, 0),)))
    >>> never(3, shelf, ((low[1], low[0]),)), never(3, shelf, (low,)), never(3, shelf[:2], (low,))
    (True, False, True)
"""

LOW = ((2, 1, 0), (0, 1, 2))
SHELF = (((0, 1),), ((0, 2),), ((1, 2),))

# (how many stands come behind k bays or fewer, n, shelf, begun, k).
JUST_STANDS = [
    (4000, 3, (
        ((1, 0), (1, 2)), ((1, 0),), ((1, 0), (1, 2), (2, 0)), ((0, 1), (2, 0), (2, 1)), ((1, 0),), ((0, 1), (2, 0), (2, 1)),
    ), ((1, 1, 2, 2, 2, 2), (1, 0, 1, 2, 2, 2, 1, 0, 1, 2), (0, 1, 1, 0, 0, 0, 2, 0, 1, 1)), 7),
    (4001, 3, (
        ((2, 0), (2, 1)), ((0, 1), (0, 2)), ((1, 2),), ((1, 0), (1, 2), (2, 0)),
    ), ((0, 1, 1, 1, 0, 0, 0, 1), (2, 0, 0, 2, 0, 2, 1, 1), (2, 2, 2, 2, 1, 1)), 7),
]

# (how many stands come at all, n, shelf, begun).
JUST_ALL = [
    (4000, 4, (
        ((1, 0), (1, 2)), ((0, 2), (3, 0), (3, 1), (3, 2)), ((1, 0), (2, 0), (2, 1), (2, 3), (3, 0), (3, 1)), ((0, 2), (1, 2)),
    ), ((0, 3, 3, 0, 2, 2, 1, 3), (2, 0, 1, 0, 2), (2, 2, 0, 1, 0, 0, 0, 1))),
    (4001, 4, (
        ((1, 0), (2, 0), (2, 1), (3, 0), (3, 1), (3, 2)), ((0, 1), (0, 2), (0, 3), (2, 1), (2, 3)),
        ((0, 3), (1, 3), (2, 0), (2, 1), (2, 3)), ((0, 2), (0, 3), (1, 0), (1, 2), (1, 3), (3, 2)),
    ), ((2, 1, 2, 1, 2), (2, 0, 0, 0, 0, 2, 1, 2), (0, 1, 3, 3, 1, 1, 1, 0))),
]


def stand_behind(shelf, begun, places):
    """Return what has become of rows behind a line of the books at these places, perhaps a long one."""
    return tuple([told_whole(tuple([shelf[place] for place in places]), row) for row in begun])


def parts_of(wanted):
    """Return the first rows, and the second ones."""
    return tuple([row for row, _ in wanted]), tuple([other for _, other in wanted])


def told_design(shelf, wanted, most):
    """What design has to return, by going through all tuples of places."""
    begun, goal = parts_of(wanted)
    for many in range(most + 1):
        for places in itertools.product(range(len(shelf)), repeat=many):
            if stand_behind(shelf, begun, places) == goal:
                return places
    return None


def levels(shelf, begun, most):
    """Return for each k the set of stands behind k bays and no fewer, by going through all tuples of places."""
    met, found = set(), []
    for many in range(most + 1):
        every = {
            stand_behind(shelf, begun, places) for places in itertools.product(range(len(shelf)), repeat=many)
        }
        found.append(every - met)
        met |= every
    return found


def waves(shelf, begun, most, limit=4000):
    """Return the sets of stands behind k bays and no fewer, each come of the one ahead, until they are too many."""
    met, found = {begun}, [{begun}]
    while found[-1] and len(found) <= most and len(met) <= limit:
        behind = {tuple([told_whole((book,), row) for row in stand]) for stand in found[-1] for book in shelf}
        found.append(behind - met)
        met |= behind
    return found


def told_outcome(shelf, wanted, most):
    """What design does, by the words of [J3], without the tuple of places: "made", "none" or "too many"."""
    begun, goal = parts_of(wanted)
    many = 0
    for k, wave in enumerate(waves(shelf, begun, most)):
        many += len(wave)
        if goal in wave:
            return "made"
        if k == most:
            return "none"
        if many > 4000:
            return "too many"
    return "none"


def draw_shelf(draw, n, most):
    """Return a shelf of n, some of its books perhaps standing on it twice."""
    books = [draw_book(draw, n) for _ in range(draw.randint(1, most))]
    return tuple([draw.choice(books) for _ in range(draw.randint(1, most))])


def draw_wanted(draw, n, shelf, things=6):
    """Return wanted of n: what some bays of shelf make, or rows turned about by chance."""
    begun = tuple([draw_row(draw, n, things) for _ in range(draw.choice((1, 1, 2, 6)))])
    places = [draw.randrange(len(shelf)) for _ in range(draw.randint(0, 4))]
    goal = stand_behind(shelf, begun, places)
    if draw.random() < 0.3:
        goal = tuple([tuple(draw.sample(row, len(row))) for row in goal])
    return tuple(zip(begun, goal))


def drawn(seed, many, kinds=8, books=3):
    """Yield (draw, n, shelf, wanted) again and again, each n from 1 to kinds among them."""
    draw = chance(seed)
    for count in range(many):
        n = count % kinds + 1
        shelf = draw_shelf(draw, n, books)
        yield draw, n, shelf, draw_wanted(draw, n, shelf)


class Examples(unittest.TestCase):

    def test_as_they_stand_in_the_document(self):
        check(self, EXAMPLES)


class WantedError(unittest.TestCase):

    def check(self, wanted, n, value):
        check_returns(self, wanted, wanted_error, n=n, value=value)

    def test_what_is_wanted(self):
        for n in range(1, 9):
            pair = (tuple(range(n)), tuple(range(n))[::-1])
            for value in ((pair,), (pair,) * 6, (((), ()),), (((n - 1,) * 60, (n - 1,) * 60), pair)):
                self.check(None, n, value)

    def test_drawn(self):
        for draw, n, _, wanted in drawn(341, 80):
            self.check(None, n, wanted)
            row = wanted[0][0]
            self.check(("things", 1), n, (wanted[0], (row, row + (0,))) + wanted[1:5])

    def test_forms(self):
        for value in no_tuples() + [(), (LOW,) * 7, (LOW,) * 4000, (None,) * 7]:
            self.check("form", 3, value)

    def test_pairs(self):
        rows = [None, 0, True, [0], (3,), (0,) * 61, (-1,), (True,), "a", {0: 0}, ((0,),), [], nested(6)]
        for row in rows:
            for pair in ((row, (0,)), ((0,), row), (row, row)):
                self.check(("pair", 0), 3, (pair,))
                self.check(("pair", 2), 3, (LOW, LOW, pair, ()))
        for pair in no_kinds(3) + [(LOW,), LOW + ((),), list(LOW), {0: 0, 1: 1}, "ab", ((),), ((), (), ())]:
            self.check(("pair", 0), 3, (pair, LOW))
            self.check(("pair", 5), 3, (LOW,) * 5 + (pair,))

    def test_things(self):
        for pair in (((0,), ()), ((0, 1), (0, 2)), ((0, 0, 1), (0, 1, 1)), ((), (2,)), ((1,) * 60, (1,) * 59)):
            self.check(("things", 0), 3, (pair, pair))
            self.check(("things", 4), 3, (LOW,) * 4 + (pair, LOW))

    def test_pairs_are_judged_ahead_of_things(self):
        self.check(("pair", 1), 3, (((0,), ()), ((0,), (3,))))
        self.check(("pair", 2), 3, (((0,), ()), ((0,), ()), LOW[:1]))
        self.check("form", 3, (((0,), ()),) * 7)


class Design(unittest.TestCase):

    def check_drawn(self, seed, many, kinds, books, most):
        lengths = set()
        for _, n, shelf, wanted in drawn(seed, many, kinds, books):
            told = told_design(shelf, wanted, most)
            lengths.add(told if told is None else len(told))
            for fewer in (0, 1, most - 1, most):
                found = told if told is not None and len(told) <= fewer else None
                check_returns(self, found, design, n=n, shelf=shelf, wanted=wanted, most=fewer)
        return lengths

    def test_drawn_shelves(self):
        self.assertGreaterEqual(self.check_drawn(342, 160, 8, 3, 4), {None, 0, 1, 2, 3})

    def test_few_books_and_longer_tuples(self):
        self.assertGreaterEqual(self.check_drawn(343, 60, 3, 2, 7), {None, 0, 1, 2, 3})

    def test_all_turns_of_three_things(self):
        for books in itertools.combinations_with_replacement(books_of(3)[::4], 2):
            for row, other in itertools.product(itertools.permutations(range(3)), repeat=2):
                wanted = ((row, other),)
                self.assertEqual(design(3, books, wanted, 4), told_design(books, wanted, 4))

    def test_the_first_of_the_shortest(self):
        # The same book stands at three places, and the other one makes nothing.
        quick = ((0, 1),)
        wanted = (((1, 1, 0), (0, 1, 1)),)
        check_returns(self, (0, 0), design, n=2, shelf=(quick, quick, (), quick), wanted=wanted, most=8)
        check_returns(self, (1, 1), design, n=2, shelf=((), quick, quick), wanted=wanted, most=8)

    def test_most(self):
        row = (1,) * 8 + (0,)
        wanted = ((row, tuple(sorted(row))),)
        for most in range(9):
            found = (0,) * 8 if most == 8 else None
            check_returns(self, found, design, n=2, shelf=(((0, 1),),), wanted=wanted, most=most)
        check_returns(self, (), design, n=2, shelf=((),), wanted=((row, row),), most=0)
        check_returns(self, None, design, n=2, shelf=((),), wanted=wanted, most=8)

    def test_twelve_books_and_six_pairs(self):
        draw = chance(344)
        for n in (1, 2, 5, 8):
            shelf = tuple([draw_book(draw, n) for _ in range(12)])
            begun = tuple([draw_row(draw, n, 60) for _ in range(6)])
            for places in ((), (11,), (3, 7), (11, 0)):
                wanted = tuple(zip(begun, stand_behind(shelf, begun, places)))
                told = told_design(shelf, wanted, 2)
                check_returns(self, told, design, n=n, shelf=shelf, wanted=wanted, most=2)

    def test_one_book(self):
        for n in range(2, 9):
            row = tuple(range(n))[::-1]
            wanted = ((row, tuple(range(n))),)
            check_returns(self, (0,) * (n - 1), design, n=n, shelf=(full_book(n),), wanted=wanted, most=8)
            check_returns(self, (0,) * (n - 1), design, n=n, shelf=(full_book(n),) * 12, wanted=wanted, most=8)

    def test_more_bays_than_a_line_may_have(self):
        self.assertEqual(len(design(8, (full_book(8),), ((tuple(range(8))[::-1], tuple(range(8))),), 8)), 7)

    def test_rows_of_one_kind(self):
        for n in range(1, 9):
            pair = ((n - 1,) * 60, (n - 1,) * 60)
            check_returns(self, (), design, n=n, shelf=(full_book(n),), wanted=(pair, ((), ())), most=8)

    def test_a_pair_that_hinders_another_one(self):
        # Each of these two could be made, but not both by one line.
        wanted = (((1, 0), (0, 1)), ((1, 1, 0), (1, 1, 0)))
        check_returns(self, None, design, n=2, shelf=(((0, 1),), ()), wanted=wanted, most=8)

    def test_just_as_many_stands_as_may_be_and_one_more(self):
        for many, n, shelf, begun, k in JUST_STANDS:
            told = waves(shelf, begun, k + 1, 10 ** 9)
            self.assertEqual(sum([len(wave) for wave in told[:k + 1]]), many)
            # A stand that does not come behind so few bays, to be asked for in vain.
            draw, goal, near = chance(355), begun, set().union(*told)
            while goal in near:
                goal = tuple([tuple(draw.sample(row, len(row))) for row in begun])
            wanted = tuple(zip(begun, goal))
            self.assertEqual(told_outcome(shelf, wanted, k + 1), "too many" if many > 4000 else "none")
            check_returns(self, None, design, n=n, shelf=shelf, wanted=wanted, most=k)
            if many > 4000:
                check_error(self, TooMany(4000), design, n=n, shelf=shelf, wanted=wanted, most=k + 1)
            else:
                check_returns(self, None, design, n=n, shelf=shelf, wanted=wanted, most=k + 1)

    def check_made(self, n, shelf, begun, stand, many):
        """Check that design tells a tuple of so many places that makes the stand, and none of fewer."""
        wanted = tuple(zip(begun, stand))
        told = outcome(design, n, shelf, wanted, 8)
        self.assertEqual(told, outcome(design, n, shelf, wanted, many))
        self.assertEqual(told[0], "returned")
        self.assertEqual(len(eval(told[1])), many)
        self.assertEqual(stand_behind(shelf, begun, eval(told[1])), stand)
        self.assertIsNone(design(n, shelf, wanted, many - 1))

    def test_too_many_stands_but_made(self):
        for many, n, shelf, begun, k in JUST_STANDS:
            told = [sorted(wave) for wave in waves(shelf, begun, k + 1, 10 ** 9)]
            # What comes behind the bays by which there are too many is told all the same.
            for stand in (told[k][0], told[k][-1]):
                self.check_made(n, shelf, begun, stand, k)
            for stand in (told[k + 1][0], told[k + 1][-1]):
                if many > 4000:
                    check_error(
                        self, TooMany(4000), design, n=n, shelf=shelf, wanted=tuple(zip(begun, stand)), most=k + 1)
                else:
                    self.check_made(n, shelf, begun, stand, k + 1)


class DesignError(unittest.TestCase):

    def told_error(self, shelf, wanted, places):
        begun, goal = parts_of(wanted)
        for place, row in enumerate(stand_behind(shelf, begun, places)):
            if row != goal[place]:
                return ("wanted", place)
        return None

    def test_drawn_tuples(self):
        found = set()
        for draw, n, shelf, wanted in drawn(345, 200):
            value = tuple([draw.randrange(len(shelf)) for _ in range(draw.randint(0, 8))])
            error = self.told_error(shelf, wanted, value)
            found.add(error)
            check_returns(self, error, design_error, n=n, shelf=shelf, wanted=wanted, value=value)
        self.assertGreaterEqual(found, {None, ("wanted", 0), ("wanted", 1), ("wanted", 2)})

    def test_all_short_tuples(self):
        for draw, n, shelf, wanted in drawn(346, 24, 4):
            for many in range(4):
                for value in itertools.product(range(len(shelf)), repeat=many):
                    self.assertEqual(
                        design_error(n, shelf, wanted, value), self.told_error(shelf, wanted, value))

    def test_it_takes_designs(self):
        for _, n, shelf, wanted in drawn(347, 200):
            told = design(n, shelf, wanted, 5)
            if told is not None:
                check_returns(self, None, design_error, n=n, shelf=shelf, wanted=wanted, value=told)
                for fewer in itertools.product(range(len(shelf)), repeat=max(0, len(told) - 1)):
                    if told:
                        self.assertIsNotNone(design_error(n, shelf, wanted, fewer))

    def test_wrong_values(self):
        for value in no_tuples() + [
            (3,), (-1,), (0, 3), (True,), (0, False), (None,), ("0",), ((0,),), ([],), ({},), (0,) * 9, (0,) * 4000,
            (10 ** 399,), (nested(9),),
        ]:
            check_returns(self, "form", design_error, n=3, shelf=SHELF, wanted=(LOW,), value=value)
        check_returns(self, "form", design_error, n=3, shelf=SHELF[:1], wanted=(LOW,), value=(1,))

    def test_eight_places_and_nine(self):
        wanted = (((0, 1, 2), (0, 1, 2)),)
        check_returns(self, None, design_error, n=3, shelf=SHELF, wanted=wanted, value=(0, 1, 2) * 2 + (2, 2))
        check_returns(self, "form", design_error, n=3, shelf=SHELF, wanted=wanted, value=(0, 1, 2) * 3)
        check_returns(self, None, design_error, n=3, shelf=(SHELF * 4), wanted=wanted, value=(11,) * 8)
        check_returns(self, "form", design_error, n=3, shelf=(SHELF * 4), wanted=wanted, value=(12,))

    def test_the_first_pair_is_told(self):
        wanted = (((0,), (0,)), LOW, LOW)
        check_returns(self, ("wanted", 1), design_error, n=3, shelf=SHELF, wanted=wanted, value=())
        check_returns(self, ("wanted", 0), design_error, n=3, shelf=SHELF, wanted=wanted[1:], value=(0, 1))


class Tuples(unittest.TestCase):

    def test_drawn_shelves(self):
        for draw, n, shelf, wanted in drawn(348, 120):
            begun = parts_of(wanted)[0]
            told = [len(wave) for wave in levels(shelf, begun, 4)]
            for most in (0, 1, 4):
                check_returns(self, tuple(told[:most + 1]), tuples, n=n, shelf=shelf, begun=begun, most=most)

    def test_all_tuples_and_never(self):
        nevers = set()
        for draw, n, shelf, wanted in drawn(349, 160, 5):
            begun, goal = parts_of(wanted)
            every = set().union(*waves(shelf, begun, 10 ** 9))
            if len(every) > 4000:
                continue
            check_returns(self, tuple(sorted(every)), all_tuples, n=n, shelf=shelf, begun=begun)
            nevers.add(goal not in every)
            check_returns(self, goal not in every, never, n=n, shelf=shelf, wanted=wanted)
            if goal not in every:
                self.assertIn(outcome(design, n, shelf, wanted, 8), [("returned", "None")])
            made = stand_behind(shelf, begun, [draw.randrange(len(shelf)) for _ in range(12)])
            check_returns(self, False, never, n=n, shelf=shelf, wanted=tuple(zip(begun, made)))
        self.assertEqual(nevers, {True, False})

    def test_going_through_all_short_tuples(self):
        for books in itertools.combinations(books_of(3)[::3], 3):
            begun = ((2, 1, 0), (0, 0, 1))
            met = set().union(*levels(books, begun, 5))
            every = all_tuples(3, books, begun)
            self.assertLessEqual(met, set(every))
            if 0 in tuples(3, books, begun, 5):
                self.assertEqual(met, set(every))

    def test_rows_of_no_thing_and_of_one_kind(self):
        for n in range(1, 9):
            for begun in (((),), ((), ()), ((0,) * 60,), ((n - 1,), (), (0,)), ((0,),) * 6):
                check_returns(self, (1, 0, 0), tuples, n=n, shelf=(full_book(n), ()), begun=begun, most=2)
                check_returns(self, (begun,), all_tuples, n=n, shelf=(full_book(n), ()), begun=begun)
                wanted = tuple(zip(begun, begun))
                check_returns(self, False, never, n=n, shelf=((),), wanted=wanted)

    def test_most_of_0_and_of_8(self):
        begun = ((1,) * 9 + (0,),)
        for shelf in ((((0, 1),),), (((0, 1),), ()), (((0, 1),),) * 12):
            check_returns(self, (1,), tuples, n=2, shelf=shelf, begun=begun, most=0)
            check_returns(self, (1,) * 9, tuples, n=2, shelf=shelf, begun=begun, most=8)
        check_returns(self, (1,) + (0,) * 8, tuples, n=2, shelf=((),), begun=begun, most=8)

    def test_longer_lines_than_steps(self):
        row = (1,) * 40 + (0,)
        wanted = ((row, tuple(sorted(row))),)
        self.assertIsNone(design(2, (((0, 1),),), wanted, 8))
        check_returns(self, False, never, n=2, shelf=(((0, 1),),), wanted=wanted)
        self.assertEqual(len(all_tuples(2, (((0, 1),),), (row,))), 41)

    def test_just_as_many_stands_as_may_be_and_one_more(self):
        for many, n, shelf, begun, k in JUST_STANDS:
            told = waves(shelf, begun, k, 10 ** 9)
            self.assertEqual(sum([len(wave) for wave in told]), many)
            sizes = tuple([len(wave) for wave in told])
            check_returns(self, sizes[:k], tuples, n=n, shelf=shelf, begun=begun, most=k - 1)
            if many > 4000:
                check_error(self, TooMany(4000), tuples, n=n, shelf=shelf, begun=begun, most=k)
            else:
                check_returns(self, sizes, tuples, n=n, shelf=shelf, begun=begun, most=k)

    def test_all_of_just_as_many_stands_as_may_be_and_one_more(self):
        for many, n, shelf, begun in JUST_ALL:
            every = set().union(*waves(shelf, begun, 10 ** 9, 10 ** 9))
            self.assertEqual(len(every), many)
            wanted = tuple(zip(begun, begun))
            if many > 4000:
                check_error(self, TooMany(4000), all_tuples, n=n, shelf=shelf, begun=begun)
                # What is wanted is there from the first, but all are looked at.
                check_error(self, TooMany(4000), never, n=n, shelf=shelf, wanted=wanted)
                check_returns(self, (), design, n=n, shelf=shelf, wanted=wanted, most=8)
            else:
                check_returns(self, tuple(sorted(every)), all_tuples, n=n, shelf=shelf, begun=begun)
                check_returns(self, False, never, n=n, shelf=shelf, wanted=wanted)

    def test_far_too_many(self):
        draw = chance(350)
        shelf = tuple([draw_book(draw, 8) for _ in range(12)])
        begun = tuple([tuple([draw.randrange(8) for _ in range(60)]) for _ in range(6)])
        wanted = tuple(zip(begun, begun[::-1]))
        check_error(self, TooMany(4000), tuples, n=8, shelf=shelf, begun=begun, most=8)
        check_error(self, TooMany(4000), all_tuples, n=8, shelf=shelf, begun=begun)
        check_error(self, TooMany(4000), never, n=8, shelf=shelf, wanted=tuple(zip(begun, begun)))
        self.assertEqual(tuples(8, shelf, begun, 2), tuple([len(wave) for wave in waves(shelf, begun, 2)]))
        self.assertEqual(wanted_error(8, wanted), ("things", 0))


class WhatHolds(unittest.TestCase):

    def test_no_fresh_ones_behind_a_0_and_sums(self):
        for draw, n, shelf, wanted in drawn(351, 120, 4):
            begun = parts_of(wanted)[0]
            told = outcome(tuples, n, shelf, begun, 8)
            if told[0] == "returned" and 0 in eval(told[1]):
                sizes = eval(told[1])
                self.assertEqual(set(sizes[sizes.index(0):]), {0})
                self.assertEqual(sum(sizes), len(all_tuples(n, shelf, begun)))

    def test_all_tuples_is_closed(self):
        for draw, n, shelf, wanted in drawn(352, 80, 4):
            begun = parts_of(wanted)[0]
            told = outcome(all_tuples, n, shelf, begun)
            if told[0] == "returned":
                every = set(eval(told[1]))
                self.assertIn(begun, every)
                for stand in draw.sample(sorted(every), min(40, len(every))):
                    for place in range(len(shelf)):
                        self.assertIn(stand_behind(shelf, stand, (place,)), every)

    def test_what_no_book_lets_pass(self):
        for draw, n, shelf, wanted in drawn(353, 80, 4):
            told = outcome(all_tuples, n, shelf, (wanted[0][0],))
            if told[0] == "returned":
                passing = {pair for book in shelf for pair in book}
                for x, h in itertools.permutations(range(n), 2):
                    if (x, h) not in passing and (h, x) not in passing:
                        kept = {tuple([kind for kind in stand[0] if kind in (x, h)]) for stand in eval(told[1])}
                        self.assertEqual(len(kept), 1)

    def test_more_books_never_make_a_design_longer(self):
        for draw, n, shelf, wanted in drawn(354, 80, 4):
            told = design(n, shelf, wanted, 5)
            if told is not None:
                self.assertLessEqual(len(design(n, (draw_book(draw, n),) + shelf, wanted, 5)), len(told))


if __name__ == "__main__":
    unittest.main()
