"""The errors of baylines: each class stands directly under BayError."""


class BayError(ValueError):
    """What all errors of the package are."""


class Unfit(BayError):
    """What was asked for cannot be."""


class BadText(BayError):
    """A text does not tell what it should; place is where that shows first."""

    def __init__(self, place):
        self.place = place


class BadBook(BayError):
    """Pairs are no book; error is what book_error tells of them."""

    def __init__(self, error):
        self.error = error


class TooMany(BayError):
    """There are more than limit."""

    def __init__(self, limit):
        self.limit = limit


class NoName(BayError):
    """Nothing of the sort that is wanted has the name given."""

    def __init__(self, given):
        self.given = given


class Taken(BayError):
    """The name given stands ahead already."""

    def __init__(self, given):
        self.given = given


class Blocked(BayError):
    """Two bays may not change places; why is what blocked tells of them."""

    def __init__(self, why):
        self.why = why


class NothingToUndo(BayError):
    """No edit stands that could be taken back."""


class TooManyEdits(BayError):
    """As many edits stand as may."""


class BadLog(BayError):
    """The item at place cannot be done as an edit."""

    def __init__(self, place):
        self.place = place
