"""Shells: desks that are told in lines of text."""

from baylines.booktexts import book_text, read_book
from baylines.bounds import MAX_KINDS
from baylines.desks import Desk
from baylines.errors import BadBook, BadText, Blocked, NothingToUndo, TooMany, TooManyEdits, Unfit
from baylines.lexing import is_number
from baylines.rowtexts import read_row, row_text

FIRST_KINDS = 3
MOST_FIGURES = 9
WHAT = "what"


def or_dash(text):
    """Return text, or "-" if it is empty."""
    return text if text != "" else "-"


def kinds_text(pairs):
    """Return the row of the kinds of pairs (ticket, kind), or "-"."""
    return or_dash(row_text([kind for _, kind in pairs]))


def out_text(pairs):
    """Return the text of what came out by an edit."""
    return "out " + kinds_text(pairs)


def list_text(items):
    """Return items with a blank between two, or "-"."""
    return or_dash(" ".join([str(item) for item in items]))


def line_text(desk):
    """Return a text of lines, one for each bay of a desk."""
    told = []
    for place, (book, kind) in enumerate(zip(desk.line, desk.standing)):
        holds = "." if kind is None else row_text((kind,))
        told.append(f"{place} {or_dash(book_text(book))} {holds}")
    return "\n".join(told) if told else "no bay"


def outs_text(desk):
    """Return the row of all that came out of a desk, or "-"."""
    return kinds_text(desk.outs)


def rest_text(desk):
    """Return the row of what the end would make come out of a desk, or "-"."""
    return kinds_text(desk.rest())


def tickets_text(desk):
    """Return the tickets of all that came out of a desk, or "-"."""
    return list_text([ticket for ticket, _ in desk.outs])


def may_text(desk):
    """Return the places at which bays of a desk may exchange their places, or "-"."""
    return list_text(desk.may())


def log_text(desk):
    """Return the words of the edits of a desk, or "-"."""
    return list_text([edit[0] for edit in desk.log])


# What is asked of a desk by a line that is a word alone, and changes nothing.
ASKED = {
    "line": line_text, "outs": outs_text, "rest": rest_text, "tickets": tickets_text, "may": may_text,
    "log": log_text,
}


class Shell:
    """A desk to which lines of text are said."""

    def __init__(self):
        self.desk = Desk(FIRST_KINDS)

    def say(self, line):
        """Return the text that answers line, any value."""
        try:
            return self.answer(line)
        except Unfit:
            return "error Unfit"
        except BadText:
            return "error BadText"
        except BadBook:
            return "error BadBook"
        except TooMany:
            return "error TooMany"
        except Blocked:
            return "error Blocked"
        except NothingToUndo:
            return "error NothingToUndo"
        except TooManyEdits:
            return "error TooManyEdits"

    def script(self, value):
        """Return what say returns for each item of value, a tuple; Unfit() if value is none."""
        if not isinstance(value, tuple):
            raise Unfit()
        return tuple([self.say(line) for line in value])

    def answer(self, line):
        """Return the text that answers line, or raise the error that the desk or a text raises."""
        if not isinstance(line, str):
            return WHAT
        if line in ASKED:
            tell = ASKED[line]
            return tell(self.desk)
        if line == "end":
            return out_text(self.desk.end())
        if line == "undo":
            self.desk.undo()
            return out_text(())
        word, _, told = line.partition(" ")
        if word == "come" and told != "":
            return self.answer_come(told)
        if word == "put":
            return self.answer_put(told)
        if is_number(told, MOST_FIGURES):
            return self.answer_number(word, int(told))
        return WHAT

    def answer_come(self, told):
        """Let the things of a row come, one behind another."""
        came_out = []
        for kind in read_row(self.desk.n, told):
            came_out.extend(self.desk.come(kind))
        return out_text(came_out)

    def answer_put(self, told):
        """Put a bay in, told by its place, or by its place and the text of its book."""
        place, blank, book = told.partition(" ")
        if not is_number(place, MOST_FIGURES) or (blank != "" and book == ""):
            return WHAT
        # Without a book this reads "", the text of the book ().
        return out_text(self.desk.put(int(place), read_book(self.desk.n, book)))

    def answer_number(self, word, number):
        """Do what a word and a number tell."""
        if word == "take":
            return out_text(self.desk.take(number))
        if word == "change":
            return out_text(self.desk.change(number))
        if word == "new" and 1 <= number <= MAX_KINDS:
            self.desk = Desk(number)
            return "new"
        return WHAT
