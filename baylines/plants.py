"""Plants: kinds, books and lines with names."""

from baylines.books import book_error
from baylines.bounds import MAX_KINDS, MAX_NAMES
from baylines.errors import NoName
from baylines.lexing import is_name
from baylines.lines import line_error


def has_form(value):
    """Return whether value, any value, is a triple of tuples, the first one of so many items as kinds may be."""
    if not isinstance(value, tuple) or len(value) != 3:
        return False
    return all([isinstance(part, tuple) for part in value]) and 1 <= len(value[0]) <= MAX_KINDS


def is_fresh(names, value):
    """Return whether value, any value, is a name that is none of names."""
    return is_name(value) and value not in names


def is_entry(names, value):
    """Return whether value, any value, is a pair of which the first item is a fresh name."""
    return isinstance(value, tuple) and len(value) == 2 and is_fresh(names, value[0])


def is_line_of(n, books, value):
    """Return whether value, any value, is a line whose bays are all among books."""
    return books != [] and line_error(n, value) is None and all([book in books for book in value])


def plant_error(value):
    """Return None if value, any value, is a plant, otherwise what is wrong with it."""
    if not has_form(value):
        return "form"
    kinds, books, lines = value
    names = {}
    for place, kind in enumerate(kinds):
        if not is_fresh(names, kind):
            return ("kind", place)
        names[kind] = True
    for place, item in enumerate(books):
        if not is_entry(names, item) or book_error(len(kinds), item[1]) is not None:
            return ("book", place)
        names[item[0]] = True
    shelf = [book for _, book in books]
    for place, item in enumerate(lines):
        if not is_entry(names, item) or not is_line_of(len(kinds), shelf, item[1]):
            return ("line", place)
        names[item[0]] = True
    return "many" if len(names) > MAX_NAMES else None


def entry_in(entries, name):
    """Return what has the name in pairs (name, what has it); NoName(name) if nothing has."""
    for given, worth in entries:
        if given == name:
            return worth
    raise NoName(name)


def book_in(plant, name):
    """Return the book of this name in plant; NoName(name) if there is none."""
    return entry_in(plant[1], name)


def line_in(plant, name):
    """Return the line of this name in plant; NoName(name) if there is none."""
    return entry_in(plant[2], name)
