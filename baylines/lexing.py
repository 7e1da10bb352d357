"""Words, numbers and signs: the tokens of the texts of plants."""

from baylines.errors import BadText

KEYWORDS = ("book", "common", "full", "kinds", "line", "none", "of", "only", "pairs", "ranks")

SMALL = "abcdefghijklmnopqrstuvwxyz"
FIGURES = "0123456789"
SIGNS = ";=>()*"
BETWEEN = " \n"
MOST_LETTERS = 8
MOST_FIGURES = 3


def behind_row(text, place, signs):
    """Return the place behind the row of such signs that begins at place, perhaps of none."""
    behind = place
    while behind < len(text) and text[behind] in signs:
        behind += 1
    return behind


def is_row(text, signs, most):
    """Return whether text consists of 1 to most of such signs."""
    return 1 <= len(text) <= most and behind_row(text, 0, signs) == len(text)


def is_number(text, most):
    """Return whether text is an integer of at most so many figures, without noughts ahead."""
    return is_row(text, FIGURES, most) and (text[0] != "0" or text == "0")


def is_name(value):
    """Return whether value, any value, is a name."""
    return isinstance(value, str) and is_row(value, SMALL, MOST_LETTERS) and value not in KEYWORDS


def token_at(text, place):
    """Return the token (sort, text, place) that begins at this place of text; BadText(place) if none does."""
    sign = text[place]
    word = text[place:behind_row(text, place, SMALL)]
    number = text[place:behind_row(text, place, FIGURES)]
    if sign in SIGNS:
        return ("sign", sign, place)
    if is_row(word, SMALL, MOST_LETTERS):
        return ("word", word, place)
    if is_number(number, MOST_FIGURES):
        return ("number", number, place)
    raise BadText(place)


def next_place(text, place):
    """Return the first place from this one on at which no blank and no line feed stands."""
    return behind_row(text, place, BETWEEN)


def tokens(value):
    """Return all tokens of value, any value, in order; BadText(place) where none stands."""
    if not isinstance(value, str):
        raise BadText(0)
    found = []
    place = next_place(value, 0)
    while place < len(value):
        token = token_at(value, place)
        found.append(token)
        place = next_place(value, place + len(token[1]))
    return tuple(found)
