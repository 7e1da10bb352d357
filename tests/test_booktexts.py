"""[A3] and [B4] of the document: books as texts."""

import itertools
import unittest

from baylines.books import all_books, book_error, closed
from baylines.booktexts import book_text, read_book
from baylines.errors import BadBook, BadText
from baylines.rowtexts import row_text
from tests.drawn import books_of, chance, draw_book, full_book
from tests.examples import check
from tests.values import check_error, check_returns, no_strings, outcome

EXAMPLES = """
    >>> low = ((0, 1), (0, 2), (1, 2))
    >>> from baylines.booktexts import book_text, read_book
    >>> book_text(low), book_text(()), read_book(3, "a>c b>c"), read_book(3, "")
    ('a>b a>c b>c', '', ((0, 2), (1, 2)), ())
    >>> read_book(3, "a>b ")
    raises BadText(4)
    >>> read_book(3, "a>b  b>c")
    raises BadText(4)
    >>> read_book(3, "a>d")
    raises BadText(2)
    >>> read_book(3, "b>c a>b")
    raises BadBook(('order', 1))
    >>> read_book(3, "a>b b>c")
    raises BadBook(('whom', 0, 1, 2))
"""

SIGNS = "".join([chr(code) for code in range(32, 127)]) + "\n"
PAIR = ("letter", ">", "letter", " ")


def told_place(n, value):
    """The place that BadText has to tell, None for none, by the document's words."""
    for place, sign in enumerate(value):
        wanted = PAIR[place % 4]
        if wanted == "letter":
            stands = sign in list("abcdefgh"[:n])
        else:
            stands = sign == wanted
        if not stands:
            return place
    whole_pairs = value == "" or len(value) % 4 == 3
    return None if whole_pairs else len(value)


def told(n, value):
    """The outcome that read_book has to have for a string."""
    place = told_place(n, value)
    if place is not None:
        return ("raised", BadText, repr({"place": place}))
    pairs = [("abcdefgh".index(pair[0]), "abcdefgh".index(pair[2])) for pair in value.split()]
    error = book_error(n, tuple(pairs))
    if error is not None:
        return ("raised", BadBook, repr({"error": error}))
    return ("returned", repr(tuple(pairs)))


class Examples(unittest.TestCase):

    def test_as_they_stand_in_the_document(self):
        check(self, EXAMPLES)


class BookText(unittest.TestCase):

    def test_each_pair(self):
        for x, h in itertools.permutations(range(8), 2):
            check_returns(self, "abcdefgh"[x] + ">" + "abcdefgh"[h], book_text, book=((x, h),))

    def test_books(self):
        check_returns(self, "", book_text, book=())
        check_returns(self, "a>b a>c b>c", book_text, book=((0, 1), (0, 2), (1, 2)))
        check_returns(self, "a>h b>a b>h", book_text, book=((0, 7), (1, 0), (1, 7)))

    def test_a_book_of_as_many_pairs_as_there_can_be(self):
        text = book_text(full_book(8))
        self.assertEqual(len(text), 28 * 4 - 1)
        self.assertEqual(text.split(" "), [row_text((x,)) + ">" + row_text((h,)) for x, h in full_book(8)])


class ReadBook(unittest.TestCase):

    def test_books(self):
        check_returns(self, ((0, 2), (1, 2)), read_book, n=3, value="a>c b>c")
        check_returns(self, ((7, 0),), read_book, n=8, value="h>a")
        for n in range(1, 9):
            check_returns(self, (), read_book, n=n, value="")

    def test_no_string(self):
        for n in (1, 3, 8):
            for value in no_strings() + [((0, 1),), ["a>b"], ("a>b",)]:
                check_error(self, BadText(0), read_book, n=n, value=value)

    def test_each_sign_at_each_place(self):
        for n in (1, 2, 3, 8):
            right = "a>b b>c" if n > 2 else "a>a a>a"
            for place in range(len(right)):
                for sign in SIGNS:
                    value = right[:place] + sign + right[place + 1:]
                    self.assertEqual(outcome(read_book, n, value), told(n, value), (n, value))
            for sign in SIGNS:
                value = right + sign
                self.assertEqual(outcome(read_book, n, value), told(n, value), (n, value))

    def test_all_short_texts(self):
        for many in range(6):
            for signs in itertools.product("ab> c", repeat=many):
                value = "".join(signs)
                self.assertEqual(outcome(read_book, 2, value), told(2, value), value)

    def test_the_letters_of_n_alone(self):
        for n in range(1, 9):
            for x, h in itertools.product("abcdefghi", repeat=2):
                value = x + ">" + h
                self.assertEqual(outcome(read_book, n, value), told(n, value), (n, value))
        check_error(self, BadText(0), read_book, n=2, value="c>a")
        check_error(self, BadText(2), read_book, n=8, value="a>i")
        check_error(self, BadText(0), read_book, n=8, value="A>b")

    def test_a_text_that_ends_too_early(self):
        right = "a>b a>c b>c"
        for many in range(1, len(right)):
            if many % 4 != 3:
                check_error(self, BadText(many), read_book, n=3, value=right[:many])

    def test_a_text_that_goes_on_too_far(self):
        check_error(self, BadText(3), read_book, n=3, value="a>bb>c")
        check_error(self, BadText(3), read_book, n=3, value="a>b\na>c")
        check_error(self, BadText(3), read_book, n=3, value="a>b,a>c")
        check_error(self, BadText(4), read_book, n=3, value="a>b ")
        check_error(self, BadText(4), read_book, n=3, value="a>b  a>c")

    def test_blanks_ahead_and_alone(self):
        check_error(self, BadText(0), read_book, n=3, value=" ")
        check_error(self, BadText(0), read_book, n=3, value=" a>b")
        check_error(self, BadText(0), read_book, n=3, value="\n")
        check_error(self, BadText(0), read_book, n=3, value=">")
        check_error(self, BadText(1), read_book, n=3, value="a >b")

    def test_the_first_place_is_told(self):
        check_error(self, BadText(2), read_book, n=3, value="a>d x")
        check_error(self, BadText(1), read_book, n=3, value="ab>")
        check_error(self, BadText(6), read_book, n=2, value="b>a a>c ")

    def test_bad_text_is_told_ahead_of_bad_book(self):
        check_error(self, BadText(8), read_book, n=3, value="b>c a>b ")
        check_error(self, BadText(7), read_book, n=3, value="a>a a>a.")
        check_error(self, BadText(10), read_book, n=3, value="a>b b>a a>d")

    def test_what_bad_book_tells(self):
        check_error(self, BadBook(("order", 1)), read_book, n=3, value="a>b a>b")
        check_error(self, BadBook(("order", 2)), read_book, n=3, value="a>c b>c a>b")
        check_error(self, BadBook(("self", 0)), read_book, n=1, value="a>a")
        check_error(self, BadBook(("self", 1)), read_book, n=3, value="a>b b>b b>c c>c")
        check_error(self, BadBook(("whom", 0, 1, 0)), read_book, n=2, value="a>b b>a")
        check_error(self, BadBook(("whom", 5, 6, 7)), read_book, n=8, value="f>g g>h")

    def test_long_texts(self):
        many = 5000
        check_error(self, BadBook(("order", 1)), read_book, n=2, value=("a>b " * many)[:-1])
        check_error(self, BadText(4 * many), read_book, n=2, value="a>b " * many)
        check_error(self, BadText(4 * many - 2), read_book, n=2, value="a>b " * (many - 1) + "a>c")
        check_error(self, BadText(1), read_book, n=2, value="a" * 20000)

    def test_drawn_texts(self):
        draw = chance(31)
        for count in range(400):
            n = count % 8 + 1
            signs = list(book_text(draw_book(draw, n)))
            for _ in range(draw.randint(0, 2)):
                place = draw.randint(0, len(signs))
                signs[place:place + draw.randint(0, 1)] = draw.choice(["", "a", "b", ">", " ", "h", " a>b"])
            value = "".join(signs)
            self.assertEqual(outcome(read_book, n, value), told(n, value), (n, value))


class WhatHolds(unittest.TestCase):

    def test_the_text_of_a_book_is_read_as_this_book(self):
        for book in books_of(4):
            self.assertEqual(read_book(4, book_text(book)), book)
        draw = chance(32)
        for count in range(160):
            n = count % 8 + 1
            book = draw_book(draw, n)
            check_returns(self, book, read_book, n=n, value=book_text(book))

    def test_what_is_read_has_the_text_that_was_read(self):
        for value in ("", "a>b", "a>b a>c b>c", "c>a c>b c>d", book_text(full_book(8))):
            self.assertEqual(book_text(read_book(8, value)), value)

    def test_what_the_package_returned(self):
        for book in all_books(3):
            check_error(self, BadText(0), read_book, n=3, value=book)
        self.assertEqual(book_text(closed(3, ((1, 2), (0, 1)))), "a>b a>c b>c")


if __name__ == "__main__":
    unittest.main()
