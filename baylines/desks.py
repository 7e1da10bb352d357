"""Desks: lines while they run, with bays put in, taken out and exchanged."""

from baylines.bounds import MAX_EDITS, MAX_KINDS
from baylines.counting import is_within
from baylines.errors import BadLog, BayError, NothingToUndo, TooManyEdits, Unfit
from baylines.moments import come_in, ended, exchangeable, exchanged, first_moment, put_in, taken_out

# The words of the edits, with how many arguments each has.
ARGUMENTS = {"put": 2, "take": 1, "come": 1, "change": 1, "end": 0}


class Desk:
    """A line of n kinds that runs."""

    def __init__(self, n):
        if not is_within(1, MAX_KINDS, n):
            raise Unfit()
        self._n = n
        # The moment at the place k is the one behind the first k edits.
        self._moments = [first_moment()]
        self._edits = []

    @property
    def n(self):
        """Tell how many kinds there are."""
        return self._n

    @property
    def line(self):
        """Tell the line as it is now."""
        return self._moments[-1].bays

    @property
    def ways(self):
        """Tell the ways of the line, ascending."""
        return self._moments[-1].stands

    @property
    def standing(self):
        """Tell the way that is shown, the first one."""
        return self._moments[-1].stands[0]

    @property
    def held(self):
        """Tell for each bay the pair (ticket, kind) of what it holds, or None."""
        return self._moments[-1].shown

    @property
    def outs(self):
        """Tell the pairs (ticket, kind) of all that came out, in order."""
        return self._moments[-1].gone

    @property
    def version(self):
        """Tell how many edits stand."""
        return len(self._edits)

    @property
    def log(self):
        """Tell the edits that stand, the first one first."""
        return tuple(self._edits)

    def __eq__(self, other):
        return (
            isinstance(other, Desk) and self.n == other.n and self.line == other.line and self.ways == other.ways
            and self.held == other.held and self.outs == other.outs
        )

    def _edit(self, edit, moment):
        """Let an edit stand that leads to this moment, and return what came out by it."""
        if len(self._edits) >= MAX_EDITS:
            raise TooManyEdits()
        came_out = moment.gone[len(self.outs):]
        self._edits.append(edit)
        self._moments.append(moment)
        return came_out

    def put(self, place, book):
        """Put a bay with this book in at the place."""
        return self._edit(("put", place, book), put_in(self._n, self._moments[-1], place, book))

    def take(self, place):
        """Take the bay at the place out."""
        return self._edit(("take", place), taken_out(self._moments[-1], place))

    def come(self, kind):
        """Let a thing of this kind come."""
        return self._edit(("come", kind), come_in(self._n, self._moments[-1], kind))

    def change(self, place):
        """Let the bays at the place and behind it exchange their places."""
        return self._edit(("change", place), exchanged(self._n, self._moments[-1], place))

    def end(self):
        """Let all that is held come out."""
        return self._edit(("end",), ended(self._moments[-1]))

    def may(self):
        """Return the places at which bays may exchange their places now, ascending."""
        return exchangeable(self._n, self._moments[-1])

    def rest(self):
        """Return what end would return, and change nothing."""
        return ended(self._moments[-1]).gone[len(self.outs):]

    def undo(self):
        """Take the last edit back, and return the version behind; NothingToUndo() if none stands."""
        if not self._edits:
            raise NothingToUndo()
        self._edits.pop()
        self._moments.pop()
        return self.version

    def at(self, version):
        """Return (line, held, outs) behind the first edits, so many; Unfit() if there are no such."""
        if not is_within(0, self.version, version):
            raise Unfit()
        moment = self._moments[version]
        return (moment.bays, moment.shown, moment.gone)

    def copy(self):
        """Return a desk equal to this one, with the same edits."""
        other = Desk(self._n)
        other._moments = list(self._moments)
        other._edits = list(self._edits)
        return other


def is_edit(value):
    """Return whether value, any value, is a tuple of a word and as many items as it has arguments."""
    if not isinstance(value, tuple) or value == () or not isinstance(value[0], str):
        return False
    return ARGUMENTS.get(value[0]) == len(value) - 1


def do_edit(desk, edit):
    """Do an edit at a desk, as a log tells it."""
    word = edit[0]
    if word == "put":
        desk.put(edit[1], edit[2])
    elif word == "take":
        desk.take(edit[1])
    elif word == "come":
        desk.come(edit[1])
    elif word == "change":
        desk.change(edit[1])
    else:
        desk.end()


def desk_behind(n, value):
    """Return a new desk behind the edits of value, any value; BadLog(place) with the first that cannot be done."""
    if not isinstance(value, tuple):
        raise BadLog(0)
    desk = Desk(n)
    for place, item in enumerate(value):
        if not is_edit(item):
            raise BadLog(place)
        try:
            do_edit(desk, item)
        except BayError:
            raise BadLog(place)
    return desk
