"""[A2](e), [A3] and [K1] to [K6] of the document: books told back."""

import functools
import itertools
import unittest

from baylines.errors import Unfit
from baylines.telling import facts, facts_of, fit, many_fit, sure, telling_row
from tests.bays import told_whole
from tests.drawn import books_of, chance, closure, draw_book, draw_row, full_book, is_order, pairs_of
from tests.examples import check
from tests.values import check_error, check_returns

EXAMPLES = """
    >>> from baylines.telling import facts, facts_of, fit, many_fit, sure, telling_row
    >>> facts(3, (2, 1, 0, 2, 1), (1, 0, 2, 1, 2)), facts(3, (1, 0, 2, 0), (0, 1, 2, 0)), facts(3, (2, 1), (1, 2)), facts(3, (), ()), facts(3, (1, 1), (1, 1))
    ((((0, 2), (1, 2)), ()), (((0, 1),), ((0, 2), (2, 1))), (((1, 2),), ()), ((), ()), ((), ()))
    >>> facts(3, (2, 1), (2, 2)), facts(3, (2, 1), (1,)), facts(2, (0, 1, 0, 1), (1, 0, 0, 1)), facts(3, (2, 1, 0, 1, 0), (1, 2, 0, 0, 1))
    (None, None, None, None)
    >>> facts_of(3, (((2, 1), (1, 2)), ((1, 0), (0, 1)))), facts_of(3, (((2, 1), (1, 2)), ((1, 0), (0, 1)), ((2, 0), (2, 0)))), facts_of(3, ())
    ((((0, 1), (1, 2)), ()), None, ((), ()))
    >>> fit(3, ((0, 1),), ((2, 1),)), fit(3, ((0, 1), (1, 2)), ((0, 2),)), fit(3, ((0, 1), (1, 0)), ()), fit(3, ((1, 1),), ()), fit(3, (), ((1, 1), (0, 2), (0, 2)))
    (True, False, False, False, True)
    >>> sure(3, ((0, 1),), ((2, 1),)), sure(3, ((0, 1), (1, 2)), ()), sure(3, (), ())
    ((((0, 1),), ((1, 0), (2, 0), (2, 1))), (((0, 1), (0, 2), (1, 2)), ((1, 0), (2, 0), (2, 1))), ((), ()))
    >>> sure(3, ((1, 2),), ((0, 1),))
    (((1, 2),), ((0, 1), (2, 1)))
    >>> sure(3, ((0, 1), (1, 0)), ())
    raises Unfit()
    >>> many_fit(3, (), ()), many_fit(3, ((1, 2),), ((0, 1),)), many_fit(3, ((0, 1), (1, 2)), ()), many_fit(3, ((0, 1), (1, 2)), ((0, 2),)), many_fit(2, (), ())
    (19, 5, 1, 0, 3)
    >>> [telling_row(3, (), (), many) for many in range(5)], telling_row(3, ((0, 1),), ((2, 1),), 4), telling_row(3, ((1, 2),), ((0, 1),), 4), telling_row(3, ((0, 1), (1, 2)), (), 4)
    ([None, None, (0, 1), (0, 1, 2), (0, 1, 2, 0)], (2, 0, 1), (0, 1, 2, 0), None)
"""

# All books of so many kinds, found once.
all_of = functools.lru_cache(maxsize=None)(books_of)


def looks(book, row):
    """Return (passing, staying): what is seen at a bay with book as row comes, the thing held told at each step."""
    passing, staying, held = set(), set(), None
    for thing in row:
        if held is None or thing == held:
            held = thing
        elif (thing, held) in book:
            passing.add((thing, held))
        else:
            staying.add((thing, held))
            held = thing
    return tuple(sorted(passing)), tuple(sorted(staying))


def fits(book, passing, staying):
    """Return whether a book has all of passing and none of staying."""
    return set(passing) <= set(book) and not set(staying) & set(book)


def fitting(n, passing, staying):
    """Return all books of n, of 1 to 4, that fit."""
    return [book for book in all_of(n) if fits(book, passing, staying)]


def told_facts(n, row, out):
    """What facts has to return, by a book of n (of 1 to 4) that makes out of row, None if there is none."""
    makers = [book for book in all_of(n) if told_whole((book,), row) == out]
    return looks(makers[0], row) if makers else None


def told_sure(n, passing, staying):
    """What sure has to return of pairs that some book of n, of 1 to 4, fits."""
    books = fitting(n, passing, staying)
    unlike = [(x, h) for x, h in pairs_of(n) if x != h]
    always = tuple([pair for pair in unlike if all(pair in book for book in books)])
    return always, tuple([pair for pair in unlike if not any(pair in book for book in books)])


def told_row(n, passing, staying, many):
    """What telling_row has to return, by all rows of at most so many things."""
    books = fitting(n, passing, staying)
    rows = [row for things in range(many + 1) for row in itertools.product(range(n), repeat=things)]
    made = {row: len({told_whole((book,), row) for book in books}) for row in rows}
    # Of those by which most is made the first one in the list is the first shortest one.
    best = max(rows, key=lambda row: made[row])
    return best if made[best] > 1 else None


def draw_pairs(draw, n, most=4):
    """Return pairs of kinds in any order, some perhaps twice or of one kind."""
    pairs = [(draw.randrange(n), draw.randrange(n)) for _ in range(draw.randint(0, most))]
    return tuple(pairs + pairs[:draw.choice((0, 0, 1))])


def draw_seen(draw, n):
    """Return pairs of tuples that are mostly such that some book fits: parts of one, and of what it lacks."""
    book = draw_book(draw, n)
    lacks = [pair for pair in pairs_of(n) if pair not in book]
    passing = [pair for pair in book if draw.random() < 0.4]
    staying = [pair for pair in lacks if draw.random() < 0.3]
    draw.shuffle(passing)
    draw.shuffle(staying)
    return tuple(passing + passing[:1]), tuple(staying[:1] + staying)


def drawn(seed, many, kinds=4):
    """Yield (draw, n, passing, staying) again and again, each n from 1 to kinds among them."""
    draw = chance(seed)
    for count in range(many):
        n = count % kinds + 1
        if count % 3:
            passing, staying = draw_seen(draw, n)
        else:
            passing, staying = draw_pairs(draw, n), draw_pairs(draw, n)
        yield draw, n, passing, staying


class Examples(unittest.TestCase):

    def test_as_they_stand_in_the_document(self):
        check(self, EXAMPLES)


class Facts(unittest.TestCase):

    def test_all_books_of_three_kinds_and_all_short_rows(self):
        for many in range(5):
            for row in itertools.product(range(3), repeat=many):
                made = {}
                for book in all_of(3):
                    made.setdefault(told_whole((book,), row), []).append(book)
                for out, makers in made.items():
                    passing, staying = facts(3, row, out)
                    self.assertEqual((passing, staying), looks(makers[0], row))
                    # Just those make out of row that fit.
                    self.assertEqual(makers, fitting(3, passing, staying))

    def test_all_short_rows_and_all_that_may_come_out(self):
        for n, most in ((2, 5), (3, 4)):
            for many in range(most + 1):
                rows = list(itertools.product(range(n), repeat=many))
                for row, out in itertools.product(rows, repeat=2):
                    self.assertEqual(facts(n, row, out), told_facts(n, row, out), (row, out))

    def test_drawn_rows_and_books(self):
        draw = chance(361)
        for count in range(240):
            n = count % 8 + 1
            book, row = draw_book(draw, n), draw_row(draw, n)
            out = told_whole((book,), row)
            check_returns(self, looks(book, row), facts, n=n, row=row, out=out)
            other = draw_book(draw, n)
            self.assertIs(fits(other, *facts(n, row, out)), told_whole((other,), row) == out)

    def test_drawn_rows_that_do_not_come_so(self):
        draw = chance(362)
        nones = 0
        for count in range(240):
            n = count % 4 + 1
            row = draw_row(draw, n, 7)
            out = list(told_whole((draw_book(draw, n),), row))
            if len(out) > 1:
                one, other = draw.randrange(len(out)), draw.randrange(len(out))
                out[one], out[other] = out[other], out[one]
            wanted = told_facts(n, row, tuple(out))
            nones += wanted is None
            check_returns(self, wanted, facts, n=n, row=row, out=tuple(out))
        self.assertGreater(nones, 30)

    def test_no_thing_and_one(self):
        for n in range(1, 9):
            check_returns(self, ((), ()), facts, n=n, row=(), out=())
            check_returns(self, ((), ()), facts, n=n, row=(n - 1,), out=(n - 1,))
            check_returns(self, None, facts, n=n, row=(n - 1,), out=())
            check_returns(self, None, facts, n=n, row=(), out=(n - 1,))
        check_returns(self, None, facts, n=2, row=(0,), out=(1,))

    def test_sixty_things(self):
        check_returns(self, ((), ()), facts, n=1, row=(0,) * 60, out=(0,) * 60)
        check_returns(self, (((0, 1),), ()), facts, n=2, row=(1,) + (0,) * 59, out=(0,) * 59 + (1,))
        check_returns(self, ((), ((0, 1),)), facts, n=2, row=(1,) + (0,) * 59, out=(1,) + (0,) * 59)
        check_returns(self, None, facts, n=2, row=(1,) + (0,) * 59, out=(0,) * 58 + (1, 0))
        check_returns(self, None, facts, n=2, row=(0,) * 60, out=(0,) * 59)

    def test_two_things_that_make_another_out_of_their_order(self):
        # What is held at the end has to be the last thing that comes out.
        check_returns(self, None, facts, n=3, row=(2, 1), out=(1, 1))
        check_returns(self, None, facts, n=3, row=(2, 2), out=(2, 1))
        check_returns(self, None, facts, n=3, row=(2, 1, 0), out=(0, 1, 2))

    def test_looks_that_no_order_has(self):
        # 0 passes 1 and 1 passes 2, but 0 does not pass 2.
        check_returns(self, None, facts, n=3, row=(2, 1, 0, 1, 0), out=(1, 2, 0, 0, 1))
        # 0 passes 1, and 1 passes 0.
        check_returns(self, None, facts, n=2, row=(1, 0, 1, 0, 1), out=(0, 1, 1, 1, 0))


class FactsOf(unittest.TestCase):

    def test_drawn_books(self):
        draw = chance(363)
        for count in range(120):
            n = count % 8 + 1
            book = draw_book(draw, n)
            rows = [draw_row(draw, n, 8) for _ in range(draw.randint(0, 12))]
            seen = tuple([(row, told_whole((book,), row)) for row in rows])
            passing = {pair for row in rows for pair in looks(book, row)[0]}
            staying = {pair for row in rows for pair in looks(book, row)[1]}
            wanted = (tuple(sorted(passing)), tuple(sorted(staying)))
            check_returns(self, wanted, facts_of, n=n, seen=seen)
            parts = [facts(n, row, out) for row, out in seen]
            self.assertEqual({pair for part in parts for pair in part[0]}, passing)
            self.assertEqual({pair for part in parts for pair in part[1]}, staying)

    def test_several_books(self):
        draw = chance(364)
        nones = 0
        for count in range(240):
            n = count % 4 + 1
            rows = [draw_row(draw, n, 5) for _ in range(draw.randint(1, 4))]
            books = [draw_book(draw, n) for _ in range(2)]
            seen = tuple([(row, told_whole((draw.choice(books),), row)) for row in rows])
            makers = [
                book for book in all_of(n) if all(told_whole((book,), row) == out for row, out in seen)
            ]
            nones += not makers
            wanted = None
            if makers:
                passing = {pair for row in rows for pair in looks(makers[0], row)[0]}
                staying = {pair for row in rows for pair in looks(makers[0], row)[1]}
                wanted = (tuple(sorted(passing)), tuple(sorted(staying)))
            check_returns(self, wanted, facts_of, n=n, seen=seen)
        self.assertGreater(nones, 5)

    def test_none_seen_and_twelve(self):
        check_returns(self, ((), ()), facts_of, n=8, seen=())
        pairs = (((1, 0), (0, 1)), ((), ()), ((0,), (0,)))
        check_returns(self, (((0, 1),), ()), facts_of, n=2, seen=pairs * 4)
        check_returns(self, None, facts_of, n=2, seen=pairs * 3 + (((1, 0), (1, 0)),))
        check_returns(self, None, facts_of, n=2, seen=pairs + (((1,), ()),))

    def test_each_alone_could_be(self):
        seen = (((2, 1), (1, 2)), ((1, 0), (0, 1)), ((2, 0), (2, 0)))
        for lot in itertools.combinations(seen, 2):
            self.assertIsNotNone(facts_of(3, lot))
        check_returns(self, None, facts_of, n=3, seen=seen)


class Fit(unittest.TestCase):

    def check_pairs(self, n, passing, staying):
        """Check fit, sure and many_fit by going through all books; return how many fit."""
        books = fitting(n, passing, staying)
        check_returns(self, bool(books), fit, n=n, passing=passing, staying=staying)
        check_returns(self, len(books), many_fit, n=n, passing=passing, staying=staying)
        if books:
            check_returns(self, told_sure(n, passing, staying), sure, n=n, passing=passing, staying=staying)
        else:
            check_error(self, Unfit(), sure, n=n, passing=passing, staying=staying)
            check_error(self, Unfit(), telling_row, n=n, passing=passing, staying=staying, many=4)
        return len(books)

    def test_all_pairs_of_two_kinds(self):
        lots = [lot for many in range(5) for lot in itertools.combinations(pairs_of(2), many)]
        for passing, staying in itertools.product(lots, repeat=2):
            self.check_pairs(2, passing, staying)

    def test_few_pairs_of_three_kinds(self):
        for passing in itertools.combinations(pairs_of(3), 2):
            for pair in pairs_of(3):
                self.check_pairs(3, passing, (pair,))
                self.check_pairs(3, (pair,), passing)

    def test_drawn_pairs(self):
        numbers = {self.check_pairs(n, passing, staying) for _, n, passing, staying in drawn(365, 160)}
        self.assertGreater(len(numbers), 8)

    def test_no_pairs(self):
        for n, books in ((1, 1), (2, 3), (3, 19), (4, 219)):
            self.assertEqual(self.check_pairs(n, (), ()), books)

    def test_pairs_told_twice_and_of_one_kind(self):
        self.assertEqual(self.check_pairs(3, ((0, 1), (0, 1)), ((1, 2), (1, 2), (2, 2), (2, 2))), 5)
        self.assertEqual(self.check_pairs(3, ((1, 1),), ()), 0)
        self.assertEqual(self.check_pairs(1, ((0, 0),), ()), 0)
        self.assertEqual(self.check_pairs(1, (), ((0, 0), (0, 0))), 1)
        self.assertEqual(self.check_pairs(2, ((0, 1),), ((0, 1),)), 0)

    def test_rings(self):
        self.assertEqual(self.check_pairs(4, ((0, 1), (1, 2), (2, 3), (3, 0)), ()), 0)
        self.assertEqual(self.check_pairs(3, ((1, 2), (2, 0), (0, 1)), ((0, 1),)), 0)
        self.assertEqual(self.check_pairs(4, ((2, 3), (0, 1), (1, 2)), ((3, 0), (0, 0))), 1)

    def test_more_kinds(self):
        # Of more than four kinds books are not gone through: the closing is judged.
        found = set()
        for draw, n, passing, staying in drawn(366, 240, 8):
            least = closure(passing)
            can = is_order(least) and not set(least) & set(staying)
            found.add(can)
            check_returns(self, can, fit, n=n, passing=passing, staying=staying)
            if not can:
                check_error(self, Unfit(), sure, n=n, passing=passing, staying=staying)
                continue
            nowhere = []
            for pair in pairs_of(n):
                more = closure(least + (pair,))
                if pair[0] != pair[1] and (not is_order(more) or set(more) & set(staying)):
                    nowhere.append(pair)
            check_returns(self, (least, tuple(nowhere)), sure, n=n, passing=passing, staying=staying)
        self.assertEqual(found, {True, False})

    def test_eight_kinds(self):
        chain = tuple([(x, x + 1) for x in range(7)])
        check_returns(self, True, fit, n=8, passing=chain[::-1], staying=tuple([(h, x) for x, h in full_book(8)]))
        turned = tuple(sorted([(h, x) for x, h in full_book(8)]))
        check_returns(self, (full_book(8), turned), sure, n=8, passing=chain, staying=())
        check_returns(self, False, fit, n=8, passing=chain, staying=((0, 7),))
        check_returns(self, ((), ()), sure, n=8, passing=(), staying=())


class TellingRow(unittest.TestCase):

    def test_drawn_pairs(self):
        for draw, n, passing, staying in drawn(367, 60, 3):
            if fitting(n, passing, staying):
                for many in range(5):
                    wanted = told_row(n, passing, staying, many)
                    check_returns(self, wanted, telling_row, n=n, passing=passing, staying=staying, many=many)

    def test_four_kinds(self):
        for draw, n, passing, staying in itertools.islice(drawn(368, 80), 3, 80, 4):
            if 0 < len(fitting(4, passing, staying)) < 60:
                wanted = told_row(4, passing, staying, 4)
                check_returns(self, wanted, telling_row, n=4, passing=passing, staying=staying, many=4)
        for many in range(4):
            check_returns(self, told_row(4, (), (), many), telling_row, n=4, passing=(), staying=(), many=many)
        self.assertEqual(telling_row(4, (), (), 4), told_row(4, (), (), 4))

    def test_one_kind(self):
        for many in range(5):
            check_returns(self, None, telling_row, n=1, passing=(), staying=((0, 0),), many=many)

    def test_no_book_fits(self):
        for many in range(5):
            check_error(self, Unfit(), telling_row, n=3, passing=((0, 1), (1, 0)), staying=(), many=many)
            check_error(self, Unfit(), telling_row, n=1, passing=((0, 0),), staying=(), many=many)

    def find(self, n, hidden, many):
        """Send the rows that telling_row tells through a bay with the hidden book; return how many there were."""
        passing, staying, sent = (), (), 0
        row = telling_row(n, passing, staying, many)
        while row is not None:
            fit_ahead = many_fit(n, passing, staying)
            made = {told_whole((book,), row) for book in fitting(n, passing, staying)}
            self.assertGreaterEqual(len(made), 2)
            more = facts(n, row, told_whole((hidden,), row))
            passing, staying, sent = passing + more[0], staying + more[1], sent + 1
            self.assertLess(many_fit(n, passing, staying), fit_ahead)
            row = telling_row(n, passing, staying, many)
        self.assertEqual(fitting(n, passing, staying), [hidden])
        self.assertEqual(sure(n, passing, staying)[0], hidden)
        return sent

    def test_rows_that_leave_the_one_hidden_book(self):
        for n in (1, 2, 3):
            for hidden in all_of(n):
                for many in (2, 3, 4):
                    self.assertLessEqual(self.find(n, hidden, many), n * (n - 1))
        draw = chance(369)
        for hidden in draw.sample(all_of(4), 6):
            self.assertLessEqual(self.find(4, hidden, 2), 12)
            self.assertLessEqual(self.find(4, hidden, 4), 12)

    def test_one_thing_tells_nothing(self):
        for many in (0, 1):
            check_returns(self, None, telling_row, n=4, passing=(), staying=(), many=many)


class WhatHolds(unittest.TestCase):

    def test_rows_of_two_things_tell_every_book(self):
        for n in (2, 3, 4):
            pairs = [(x, h) for x, h in pairs_of(n) if x != h]
            for book in all_of(n)[::5]:
                seen = tuple([((h, x), told_whole((book,), (h, x))) for x, h in pairs])
                passing, staying = facts_of(n, seen)
                self.assertEqual(passing, book)
                self.assertEqual(set(passing) | set(staying), set(pairs))

    def test_more_pairs_never_make_more_books_fit(self):
        for draw, n, passing, staying in drawn(370, 120):
            more = (draw.randrange(n), draw.randrange(n))
            self.assertLessEqual(many_fit(n, passing + (more,), staying), many_fit(n, passing, staying))
            self.assertLessEqual(many_fit(n, passing, staying + (more,)), many_fit(n, passing, staying))


if __name__ == "__main__":
    unittest.main()
