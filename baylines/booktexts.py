"""Books as texts: "a>b a>c" for a book in which 0 passes 1 and 2."""

from baylines.books import book_error
from baylines.errors import BadBook, BadText
from baylines.rowtexts import LETTERS, read_row, row_text


def book_text(book):
    """Return the text of book."""
    return " ".join([">".join(row_text(pair)) for pair in book])


def check_form(n, value):
    """Raise BadText if value is not made as texts of books are."""
    if not isinstance(value, str):
        raise BadText(0)
    letters = LETTERS[:n]
    # A pair and the blank behind it are four signs, so what can stand at a
    # place comes again every four places.
    signs = (letters, ">", letters, " ")
    for place, sign in enumerate(value):
        if sign not in signs[place % 4]:
            raise BadText(place)
    if value != "" and len(value) % 4 != 3:
        raise BadText(len(value))


def read_book(n, value):
    """Return the book of n of which value, any value, is the text."""
    check_form(n, value)
    book = tuple([read_row(n, pair.replace(">", "")) for pair in value.split()])
    error = book_error(n, book)
    if error is not None:
        raise BadBook(error)
    return book
