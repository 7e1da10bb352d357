"""[A3], [A6] and [A7] of the document: rows as texts."""

import unittest

from baylines.errors import BadText
from baylines.rows import rows_of
from baylines.rowtexts import read_row, row_text
from tests.examples import check
from tests.values import check_error, check_returns, no_strings

EXAMPLES = """
    >>> from baylines.rowtexts import read_row, row_text
    >>> row_text((0, 2, 1, 0)), row_text(()), read_row(3, "acba"), read_row(8, "")
    ('acba', '', (0, 2, 1, 0), ())
    >>> read_row(3, "abdz")
    raises BadText(2)
    >>> read_row(3, "ab a")
    raises BadText(2)
    >>> read_row(2, "a" * 61)
    raises BadText(60)
    >>> read_row(2, ("a",))
    raises BadText(0)
"""

SIGNS = "".join([chr(code) for code in range(32, 127)]) + "\n"


class Examples(unittest.TestCase):

    def test_as_they_stand_in_the_document(self):
        check(self, EXAMPLES)


class RowText(unittest.TestCase):

    def test_each_letter(self):
        check_returns(self, "abcdefgh", row_text, row=(0, 1, 2, 3, 4, 5, 6, 7))
        check_returns(self, "hgfedcba", row_text, row=(7, 6, 5, 4, 3, 2, 1, 0))

    def test_rows(self):
        check_returns(self, "", row_text, row=())
        check_returns(self, "bb", row_text, row=(1, 1))
        check_returns(self, "h" * 60, row_text, row=(7,) * 60)


class ReadRow(unittest.TestCase):

    def test_each_sign_for_each_n(self):
        for n in range(1, 9):
            for sign in SIGNS:
                kind = "abcdefgh"[:n].find(sign)
                if kind < 0:
                    check_error(self, BadText(0), read_row, n=n, value=sign)
                else:
                    check_returns(self, (kind,), read_row, n=n, value=sign)

    def test_rows(self):
        check_returns(self, (), read_row, n=1, value="")
        check_returns(self, (0, 7, 3), read_row, n=8, value="ahd")
        check_returns(self, (1, 1, 0), read_row, n=2, value="bba")

    def test_no_string(self):
        for n in (1, 8):
            for value in no_strings():
                check_error(self, BadText(0), read_row, n=n, value=value)

    def test_the_least_place_of_a_bad_sign_is_told(self):
        check_error(self, BadText(1), read_row, n=2, value="ac c")
        check_error(self, BadText(3), read_row, n=3, value="abcA")
        check_error(self, BadText(0), read_row, n=3, value=" abc")
        check_error(self, BadText(3), read_row, n=3, value="abc\n")
        check_error(self, BadText(0), read_row, n=1, value="b")
        check_error(self, BadText(1), read_row, n=8, value="hi")

    def test_sixty_signs_and_more(self):
        check_returns(self, (0,) * 59, read_row, n=1, value="a" * 59)
        check_returns(self, (0,) * 60, read_row, n=1, value="a" * 60)
        for many in (61, 62, 120, 20000):
            check_error(self, BadText(60), read_row, n=1, value="a" * many)

    def test_a_bad_sign_among_sixty(self):
        for place in range(60):
            value = "a" * place + "." + "a" * (59 - place)
            check_error(self, BadText(place), read_row, n=8, value=value)

    def test_a_bad_sign_among_more_than_sixty(self):
        for many in (61, 70, 20000):
            for place in (0, 1, 58, 59, 60, 61, 69, many - 1):
                if place < many:
                    value = "a" * place + "." + "a" * (many - place - 1)
                    check_error(self, BadText(min(place, 60)), read_row, n=8, value=value)

    def test_a_bad_sign_on_both_sides_of_the_sixtieth_place(self):
        check_error(self, BadText(59), read_row, n=2, value="a" * 59 + "c" + "cc")
        check_error(self, BadText(60), read_row, n=2, value="a" * 60 + "cc")
        check_error(self, BadText(5), read_row, n=2, value="a" * 5 + "c" + "a" * 60 + "c")


class WhatHolds(unittest.TestCase):

    def test_the_text_of_a_row_is_read_as_this_row(self):
        rows = rows_of(3, 5) + rows_of(8, 3) + ((7,) * 60, tuple([place % 8 for place in range(60)]))
        for row in rows:
            self.assertEqual(read_row(8, row_text(row)), row)
        for row in rows_of(3, 5):
            self.assertEqual(read_row(3, row_text(row)), row)

    def test_what_is_read_has_the_text_that_was_read(self):
        for value in ("", "a", "hgfedcba", "abab", "b" * 60, "abcdefgh" * 7 + "abcd"):
            self.assertEqual(row_text(read_row(8, value)), value)


if __name__ == "__main__":
    unittest.main()
