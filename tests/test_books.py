"""[A3], [B1], [B2], [B3] and [B5] of the document: books."""

import itertools
import unittest

from baylines.books import (
    all_books, book_error, closed, common, only, passed, passers, passes, ranked, renamed,
)
from baylines.errors import Unfit
from tests.drawn import books_of, chance, closure, draw_book, full_book, is_order, pairs_of
from tests.examples import check
from tests.values import check_error, check_returns, nested, no_pairs, no_tuples

EXAMPLES = """
    >>> from baylines.books import all_books, book_error, closed, common, only, passed, passers, passes, ranked, renamed
    >>> low = ((0, 1), (0, 2), (1, 2))
    >>> [book_error(3, value) for value in (low, (), [(0, 1)], ((0, 3),), ((0, 1), 5), ((0, 2), (0, 1)), ((0, 1), (0, 1)))]
    [None, None, 'form', ('pair', 0), ('pair', 1), ('order', 1), ('order', 1)]
    >>> [book_error(3, value) for value in (((1, 1),), ((0, 1), (1, 2)), ((0, 1), (1, 0)), ((0, 1), (0, 2), (2, 1)), ((0, True),))]
    [('self', 1), ('whom', 0, 1, 2), ('whom', 0, 1, 0), None, ('pair', 0)]
    >>> passes(low, 0, 2), passes(low, 2, 0), passed(low, 0), passed(low, 2), passers(low)
    (True, False, (1, 2), (), (0, 1))
    >>> ranked((1, 2, 3)) == low, ranked((5, 5, 1)), ranked((7, 7)), closed(3, ((1, 2), (0, 1), (0, 1))) == low, closed(2, ())
    (True, ((2, 0), (2, 1)), (), True, ())
    >>> closed(3, ((0, 1), (1, 2), (2, 0)))
    raises Unfit()
    >>> closed(2, ((1, 1),))
    raises Unfit()
    >>> only(low, (0,)), only(low, (1, 2)), only(low, (2,)), common(low, ((0, 1), (0, 2), (2, 1))), renamed(low, (2, 0, 1))
    (((0, 1), (0, 2)), ((1, 2),), (), ((0, 1), (0, 2)), ((0, 1), (2, 0), (2, 1)))
    >>> all_books(2), [len(all_books(n)) for n in (1, 2, 3, 4)], all_books(3)[:4]
    (((), ((0, 1),), ((1, 0),)), [1, 3, 19, 219], ((), ((0, 1),), ((0, 1), (0, 2)), ((0, 1), (0, 2), (1, 2))))
"""

LOW = ((0, 1), (0, 2), (1, 2))


def told_error(n, value):
    """What book_error has to tell of a tuple of pairs of kinds, by the document's words."""
    for place in range(1, len(value)):
        if not value[place] > value[place - 1]:
            return ("order", place)
    for x in range(n):
        if (x, x) in value:
            return ("self", x)
    for x, y, z in itertools.product(range(n), repeat=3):
        if (x, y) in value and (y, z) in value and (x, z) not in value:
            return ("whom", x, y, z)
    return None


def subsets(items):
    """Yield all tuples of some of items, in their order."""
    for many in range(len(items) + 1):
        yield from itertools.combinations(items, many)


def drawn_books(seed, many):
    """Yield pairs (n, a drawn book of n), each n from 1 to 8 among them."""
    draw = chance(seed)
    for count in range(many):
        n = count % 8 + 1
        yield n, draw_book(draw, n)


class Examples(unittest.TestCase):

    def test_as_they_stand_in_the_document(self):
        check(self, EXAMPLES)


class BookError(unittest.TestCase):

    def test_the_empty_book(self):
        for n in range(1, 9):
            check_returns(self, None, book_error, n=n, value=())

    def test_books_with_as_many_pairs_as_there_can_be(self):
        for n in range(1, 9):
            book = full_book(n)
            self.assertEqual(len(book), n * (n - 1) // 2)
            check_returns(self, None, book_error, n=n, value=book)
            turned = tuple(sorted([(h, x) for x, h in book]))
            check_returns(self, None, book_error, n=n, value=turned)

    def test_each_set_of_pairs_of_up_to_three_kinds(self):
        for n in (1, 2, 3):
            for value in subsets(pairs_of(n)):
                self.assertEqual(repr(book_error(n, value)), repr(told_error(n, value)), value)

    def test_up_to_four_pairs_in_any_order_and_told_again(self):
        for many in range(5):
            for value in itertools.product(pairs_of(2), repeat=many):
                self.assertEqual(repr(book_error(2, value)), repr(told_error(2, value)), value)

    def test_drawn_books_and_drawn_faults(self):
        draw = chance(11)
        told = {}
        for n, book in drawn_books(12, 600):
            self.assertIsNone(book_error(n, book), book)
            pairs = list(book) + [draw.choice(pairs_of(n)) for _ in range(draw.randint(0, 2))]
            if pairs and draw.random() < 0.5:
                pairs.pop(draw.randrange(len(pairs)))
            value = tuple(pairs if draw.random() < 0.3 else sorted(set(pairs)))
            error = book_error(n, value)
            self.assertEqual(repr(error), repr(told_error(n, value)), (n, value))
            told[error and error[0]] = True
        self.assertEqual(set(told), {None, "order", "self", "whom"})

    def test_no_tuple(self):
        for n in (1, 3, 8):
            for value in no_tuples():
                check_returns(self, "form", book_error, n=n, value=value)

    def test_an_item_that_is_no_pair_of_kinds(self):
        for n in (1, 2, 3, 8):
            for item in no_pairs(n):
                check_returns(self, ("pair", 0), book_error, n=n, value=(item,))
        for item in no_pairs(3):
            check_returns(self, ("pair", 1), book_error, n=3, value=((0, 1), item))
            check_returns(self, ("pair", 3), book_error, n=3, value=LOW + (item,))
            check_returns(self, ("pair", 0), book_error, n=3, value=(item,) + LOW)

    def test_kinds_of_n_alone(self):
        for n in range(1, 9):
            for x, h in itertools.product(range(-1, 10), repeat=2):
                if x not in range(n) or h not in range(n):
                    wanted = ("pair", 0)
                else:
                    wanted = ("self", x) if x == h else None
                self.assertEqual(book_error(n, ((x, h),)), wanted, (n, x, h))

    def test_true_and_false_are_no_kinds(self):
        for item in ((0, True), (False, 1), (True, False), (True, 0)):
            check_returns(self, ("pair", 0), book_error, n=8, value=(item,))
            check_returns(self, ("pair", 1), book_error, n=8, value=((0, 1), item))

    def test_the_first_item_that_is_no_pair_is_told(self):
        check_returns(self, ("pair", 1), book_error, n=3, value=((0, 1), None, (0, 3), 7))
        check_returns(self, ("pair", 0), book_error, n=1, value=((0, 1), (0, 0), (1, 0)))

    def test_a_pair_is_told_ahead_of_all_behind_it(self):
        check_returns(self, ("pair", 2), book_error, n=3, value=((0, 2), (0, 1), (0, 3)))
        check_returns(self, ("pair", 3), book_error, n=3, value=((0, 1), (0, 1), (1, 1), "ab"))
        check_returns(self, ("pair", 2), book_error, n=3, value=((0, 1), (1, 2), [0, 2]))

    def test_the_first_item_out_of_order_is_told(self):
        check_returns(self, ("order", 1), book_error, n=3, value=((1, 2), (0, 2), (0, 1)))
        check_returns(self, ("order", 2), book_error, n=3, value=((0, 1), (0, 2), (0, 2), (0, 1)))
        check_returns(self, ("order", 2), book_error, n=3, value=((0, 1), (2, 0), (1, 2)))
        check_returns(self, ("order", 28), book_error, n=8, value=full_book(8) + ((0, 1),))

    def test_order_is_told_ahead_of_self_and_whom(self):
        check_returns(self, ("order", 1), book_error, n=2, value=((1, 1), (0, 0)))
        check_returns(self, ("order", 1), book_error, n=2, value=((0, 0), (0, 0)))
        check_returns(self, ("order", 2), book_error, n=3, value=((0, 1), (1, 2), (1, 0)))

    def test_self_is_told_with_the_least_kind(self):
        for n in range(1, 9):
            for least in range(n):
                value = tuple([(x, x) for x in range(least, n)])
                check_returns(self, ("self", least), book_error, n=n, value=value)

    def test_self_is_told_ahead_of_whom(self):
        check_returns(self, ("self", 2), book_error, n=3, value=((0, 1), (1, 2), (2, 2)))
        check_returns(self, ("self", 1), book_error, n=3, value=((0, 1), (1, 0), (1, 1)))

    def test_whom_is_told_with_the_first_triple(self):
        check_returns(self, ("whom", 0, 1, 0), book_error, n=2, value=((0, 1), (1, 0)))
        check_returns(self, ("whom", 0, 1, 2), book_error, n=4, value=((0, 1), (0, 3), (1, 2), (1, 3), (2, 0)))
        check_returns(self, ("whom", 0, 2, 1), book_error, n=3, value=((0, 2), (1, 0), (2, 1)))
        check_returns(self, ("whom", 1, 0, 2), book_error, n=3, value=((0, 2), (1, 0)))
        check_returns(self, ("whom", 0, 1, 3), book_error, n=4, value=((0, 1), (0, 2), (1, 3), (2, 3)))
        check_returns(self, ("whom", 5, 6, 7), book_error, n=8, value=((5, 6), (6, 7)))

    def test_a_great_many_items(self):
        check_returns(self, ("order", 1), book_error, n=8, value=((0, 1),) * 1300)
        check_returns(self, ("pair", 1299), book_error, n=8, value=((0, 1),) * 1299 + (0,))
        check_returns(self, ("pair", 0), book_error, n=8, value=((),) * 3999)

    def test_nested_values(self):
        for depth in range(1, 21):
            value = nested(depth)
            wanted = ("pair", 0) if isinstance(value, tuple) else "form"
            check_returns(self, wanted, book_error, n=8, value=value)

    def test_what_the_package_returned(self):
        book = closed(8, ((3, 4), (4, 5)))
        check_returns(self, None, book_error, n=8, value=book)
        check_returns(self, ("pair", 0), book_error, n=4, value=book)
        check_returns(self, "form", book_error, n=8, value=list(book))
        check_returns(self, ("pair", 0), book_error, n=4, value=(all_books(4)[-1],))
        check_returns(self, ("pair", 0), book_error, n=4, value=all_books(4))
        check_returns(self, ("pair", 0), book_error, n=2, value=passed(book, 3))


class Passing(unittest.TestCase):

    def test_each_way_of_calling(self):
        check_returns(self, True, passes, book=LOW, x=0, h=1)
        check_returns(self, False, passes, book=LOW, x=1, h=0)
        check_returns(self, (1, 2), passed, book=LOW, x=0)
        check_returns(self, (0, 1), passers, book=LOW)

    def test_the_empty_book(self):
        for kind in range(8):
            check_returns(self, False, passes, book=(), x=kind, h=7)
            check_returns(self, (), passed, book=(), x=kind)
        check_returns(self, (), passers, book=())

    def test_against_the_pairs_of_each_book(self):
        drawn = [(4, book) for book in books_of(4)] + list(drawn_books(13, 80))
        for n, book in drawn:
            kinds = range(n)
            for x in kinds:
                for h in kinds:
                    self.assertIs(passes(book, x, h), (x, h) in set(book))
                self.assertEqual(passed(book, x), tuple([h for h in kinds if (x, h) in set(book)]))
            wanted = tuple([x for x in kinds if any((x, h) in set(book) for h in kinds)])
            self.assertEqual(passers(book), wanted)

    def test_each_passer_once(self):
        check_returns(self, (0, 1, 2, 3, 4, 5, 6), passers, book=full_book(8))
        check_returns(self, (1, 2, 3, 4, 5, 6, 7), passed, book=full_book(8), x=0)
        check_returns(self, (3,), passers, book=((3, 0), (3, 7)))


class Ranked(unittest.TestCase):

    def test_all_levels_of_up_to_four_kinds(self):
        for n in range(1, 5):
            for levels in itertools.product((-1, 0, 1, 2), repeat=n):
                wanted = tuple([(x, h) for x, h in pairs_of(n) if levels[x] < levels[h]])
                self.assertEqual(ranked(levels), wanted, levels)
                self.assertIsNone(book_error(n, wanted), levels)

    def test_one_kind(self):
        for level in (0, 1, -5, 10 ** 399):
            check_returns(self, (), ranked, levels=(level,))

    def test_levels_that_are_alike(self):
        for n in range(1, 9):
            check_returns(self, (), ranked, levels=(-3,) * n)
        check_returns(self, ((2, 0), (2, 1), (2, 3)), ranked, levels=(5, 5, 1, 5))

    def test_levels_below_nought_and_very_great(self):
        great = 10 ** 399
        check_returns(self, ((0, 1),), ranked, levels=(-1, 0))
        check_returns(self, ((1, 0),), ranked, levels=(-1, -2))
        check_returns(self, ((0, 2), (1, 0), (1, 2)), ranked, levels=(0, -great, great))
        check_returns(self, ((0, 1),), ranked, levels=(great - 1, great))

    def test_eight_kinds(self):
        check_returns(self, full_book(8), ranked, levels=(0, 1, 2, 3, 4, 5, 6, 7))
        draw = chance(14)
        for _ in range(40):
            levels = tuple([draw.randint(-3, 3) for _ in range(8)])
            book = ranked(levels)
            self.assertIsNone(book_error(8, book))
            self.assertEqual(list(book), [(x, h) for x, h in pairs_of(8) if levels[x] < levels[h]])


class Closed(unittest.TestCase):

    def check_least(self, n, pairs, books):
        """Check closed against all books that have the pairs."""
        having = [set(book) for book in books if set(pairs) <= set(book)]
        if not having:
            check_error(self, Unfit(), closed, n=n, pairs=pairs)
            return
        check_returns(self, tuple(sorted(set.intersection(*having))), closed, n=n, pairs=pairs)

    def test_each_set_of_pairs_of_up_to_three_kinds(self):
        for n in (1, 2, 3):
            for pairs in subsets(pairs_of(n)):
                self.check_least(n, pairs, books_of(n))

    def test_pairs_in_any_order_and_told_again(self):
        for many in range(4):
            for pairs in itertools.product(pairs_of(3), repeat=many):
                told = sorted(set(pairs))
                wanted = closure(told)
                if is_order(wanted):
                    self.assertEqual(closed(3, pairs), wanted, pairs)
                else:
                    self.assertRaises(Unfit, closed, 3, pairs)

    def test_drawn_pairs_of_four_kinds(self):
        draw, books = chance(15), books_of(4)
        for _ in range(150):
            pairs = tuple([draw.choice(pairs_of(4)) for _ in range(draw.randint(0, 5))])
            self.check_least(4, pairs, books)

    def test_drawn_pairs_of_up_to_eight_kinds(self):
        draw = chance(16)
        for n, book in drawn_books(17, 240):
            pairs = [draw.choice(book) for _ in range(draw.randint(0, 20))] if book else []
            draw.shuffle(pairs)
            check_returns(self, closure(pairs), closed, n=n, pairs=tuple(pairs))

    def test_rings(self):
        for n in range(1, 9):
            for size in range(1, n + 1):
                ring = [(place, (place + 1) % size) for place in range(size)]
                for turn in range(size):
                    check_error(self, Unfit(), closed, n=n, pairs=tuple(ring[turn:] + ring[:turn]))
                if size > 1:
                    wanted = closure(ring[:-1])
                    check_returns(self, wanted, closed, n=n, pairs=tuple(reversed(ring[:-1])))

    def test_a_kind_beside_itself(self):
        for n in range(1, 9):
            for kind in range(n):
                check_error(self, Unfit(), closed, n=n, pairs=((kind, kind),))
        check_error(self, Unfit(), closed, n=3, pairs=((0, 1), (2, 2), (0, 1)))

    def test_a_ring_among_others(self):
        check_error(self, Unfit(), closed, n=8, pairs=((0, 1), (6, 7), (4, 5), (7, 6)))
        check_error(self, Unfit(), closed, n=8, pairs=((5, 0), (0, 3), (3, 7), (7, 5), (1, 2)))

    def test_a_way_through_all_kinds(self):
        for names in ((0, 1, 2, 3, 4, 5, 6, 7), (7, 6, 5, 4, 3, 2, 1, 0), (3, 0, 6, 1, 7, 2, 5, 4)):
            pairs = tuple(zip(names, names[1:]))
            wanted = tuple(sorted(itertools.combinations(names, 2)))
            check_returns(self, wanted, closed, n=8, pairs=pairs)
            check_returns(self, wanted, closed, n=8, pairs=pairs[::-1] * 3)

    def test_no_pairs(self):
        for n in range(1, 9):
            check_returns(self, (), closed, n=n, pairs=())

    def test_a_book_is_its_own(self):
        for n, book in [(4, book) for book in books_of(4)] + list(drawn_books(18, 80)):
            self.assertEqual(closed(n, book), book)
            self.assertEqual(closed(n, book[::-1] + book), book)


class Only(unittest.TestCase):

    def test_all_books_of_up_to_four_kinds(self):
        for n in range(1, 5):
            for book in books_of(n):
                for chosen in subsets(range(n)):
                    wanted = tuple([(x, h) for x, h in pairs_of(n) if (x, h) in book and x in chosen])
                    self.assertEqual(only(book, chosen), wanted, (book, chosen))
                    self.assertIsNone(book_error(n, wanted), (book, chosen))

    def test_each_way_of_calling(self):
        check_returns(self, ((0, 1), (0, 2)), only, book=LOW, chosen=(0,))
        check_returns(self, (), only, book=LOW, chosen=())
        check_returns(self, LOW, only, book=LOW, chosen=(0, 1, 2))
        check_returns(self, (), only, book=(), chosen=(0, 1, 2))
        check_returns(self, ((6, 7),), only, book=full_book(8), chosen=(6, 7))


class Common(unittest.TestCase):

    def test_all_books_of_three_kinds(self):
        for one in books_of(3):
            for other in books_of(3):
                wanted = tuple(sorted(set(one) & set(other)))
                self.assertEqual(common(one, other), wanted)
                self.assertIsNone(book_error(3, wanted))

    def test_drawn_books(self):
        draw = chance(19)
        for n, one in drawn_books(20, 160):
            other = draw_book(draw, n)
            check_returns(self, tuple(sorted(set(one) & set(other))), common, one=one, other=other)
            self.assertIsNone(book_error(n, common(one, other)))

    def test_each_way_of_calling(self):
        check_returns(self, ((0, 1), (0, 2)), common, one=LOW, other=((0, 1), (0, 2), (2, 1)))
        check_returns(self, (), common, one=LOW, other=())
        check_returns(self, (), common, one=(), other=LOW)
        check_returns(self, full_book(8), common, one=full_book(8), other=full_book(8))


class Renamed(unittest.TestCase):

    def test_all_books_of_up_to_four_kinds_by_all_names(self):
        for n in range(1, 5):
            for book in books_of(n):
                for names in itertools.permutations(range(n)):
                    more = renamed(book, names)
                    self.assertIsNone(book_error(n, more))
                    for x, h in pairs_of(n):
                        self.assertIs((names[x], names[h]) in more, (x, h) in book)

    def test_and_back_by_the_names_the_other_way_round(self):
        draw = chance(21)
        for n, book in drawn_books(22, 160):
            names = list(range(n))
            draw.shuffle(names)
            back = tuple([names.index(kind) for kind in range(n)])
            more = renamed(book, tuple(names))
            self.assertIsNone(book_error(n, more))
            check_returns(self, book, renamed, book=more, names=back)

    def test_each_way_of_calling(self):
        check_returns(self, ((0, 1), (2, 0), (2, 1)), renamed, book=LOW, names=(2, 0, 1))
        check_returns(self, (), renamed, book=(), names=(1, 0))
        check_returns(self, (), renamed, book=(), names=(0,))
        turned = tuple(sorted([(h, x) for x, h in full_book(8)]))
        check_returns(self, turned, renamed, book=full_book(8), names=(7, 6, 5, 4, 3, 2, 1, 0))


class AllBooks(unittest.TestCase):

    def test_just_all_books(self):
        for n, many in ((1, 1), (2, 3), (3, 19), (4, 219)):
            books = all_books(n)
            self.assertEqual(len(books), many)
            self.assertEqual(repr(books), repr(tuple(books_of(n))))

    def test_ascending_and_each_a_book(self):
        for n in range(1, 5):
            books = all_books(n)
            self.assertIsInstance(books, tuple)
            self.assertEqual([one for one, more in zip(books, books[1:]) if not one < more], [])
            self.assertEqual([book for book in books if book_error(n, book) is not None], [])

    def test_each_way_of_calling(self):
        check_returns(self, ((),), all_books, n=1)
        check_returns(self, ((), ((0, 1),), ((1, 0),)), all_books, n=2)
        check_returns(self, tuple(books_of(3)), all_books, n=3)


class WhatHolds(unittest.TestCase):

    def books(self):
        return [(4, book) for book in all_books(4)] + list(drawn_books(23, 160))

    def test_who_passes_a_kind_passes_all_that_it_passes(self):
        for _, book in self.books():
            for x, y in book:
                self.assertLessEqual(set(passed(book, y)) | {y}, set(passed(book, x)))
                self.assertFalse(passes(book, y, x))
                self.assertFalse(passes(book, x, x))

    def test_how_many_pairs_and_a_numbering_by_ranks(self):
        for n, book in self.books():
            self.assertLessEqual(len(book), n * (n - 1) // 2)
            ranks = [-len(passed(book, kind)) for kind in range(n)]
            self.assertEqual([pair for pair in book if ranks[pair[0]] >= ranks[pair[1]]], [])
            self.assertEqual(common(book, ranked(tuple(ranks))), book)

    def test_in_only_the_kinds_that_are_passed_need_not_be_chosen(self):
        self.assertEqual(only(LOW, (0,)), ((0, 1), (0, 2)))
        self.assertIsNone(book_error(3, only(LOW, (0, 1))))


if __name__ == "__main__":
    unittest.main()
