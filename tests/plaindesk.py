"""A desk as the document's words tell it, and edits drawn by chance."""

from tests.bays import Bays, none_first, told_blocked, told_changed, told_ending
from tests.drawn import draw_book, draw_part
from tests.values import nested, no_kinds, no_tuples


class Refused(Exception):
    """What a call has to raise: the name of its error, and what that keeps, if anything."""


def is_from(low, high, value):
    return type(value) is int and low <= value <= high


def book_fault(n, value):
    """What book_error tells of any value, by [B2]."""
    if type(value) is not tuple:
        return "form"
    for place, item in enumerate(value):
        pair = type(item) is tuple and len(item) == 2 and is_from(0, n - 1, item[0]) and is_from(0, n - 1, item[1])
        if not pair:
            return ("pair", place)
    for place in range(1, len(value)):
        if not value[place - 1] < value[place]:
            return ("order", place)
    for x in range(n):
        if (x, x) in value:
            return ("self", x)
    triples = [(x, y, z) for x, y in value for again, z in value if y == again and (x, z) not in value]
    return ("whom",) + min(triples) if triples else None


class PlainDesk:
    """The ways are a set, what is held is a list of pairs (ticket, kind) as they came."""

    def __init__(self, n):
        self.n = n
        self.line = []
        self.ways = {()}
        self.inside = []
        self.outs = []
        self.log = []
        self.ahead = []

    def twin(self):
        """Return another desk that is the same and does not change with this one."""
        other = PlainDesk(self.n)
        other.line, other.ways, other.inside = list(self.line), set(self.ways), list(self.inside)
        other.outs, other.log, other.ahead = list(self.outs), list(self.log), list(self.ahead)
        return other

    def sorted_ways(self):
        return tuple(sorted(self.ways, key=none_first))

    @property
    def standing(self):
        return self.sorted_ways()[0]

    def held(self):
        """Of things of one kind the one nearest to the end came first."""
        way = self.sorted_ways()[0]
        told = []
        for place, kind in enumerate(way):
            tickets = sorted([ticket for ticket, other in self.inside if other == kind])
            told.append(None if kind is None else (tickets[way[place + 1:].count(kind)], kind))
        return tuple(told)

    def shown(self):
        """Return all that a desk tells by its properties, in a fixed order."""
        ways = self.sorted_ways()
        return (
            self.n, tuple(self.line), ways, ways[0], self.held(), tuple(self.outs), len(self.log), tuple(self.log))

    def give_out(self, kinds):
        """Of the things of a kind that are held the one that came first comes out."""
        given = []
        for kind in kinds:
            pair = min([pair for pair in self.inside if pair[1] == kind])
            self.inside.remove(pair)
            given.append(pair)
        self.outs += given
        return tuple(given)

    def do(self, *edit):
        """Do an edit and return what came out, or raise Refused and change nothing."""
        behind = self.twin()
        given = getattr(behind, "do_" + edit[0])(*edit[1:])
        if len(self.log) == 60:
            raise Refused("TooManyEdits")
        behind.log.append(edit)
        behind.ahead.append(self.twin())
        vars(self).update(vars(behind))
        return given

    def do_put(self, place, book):
        if not is_from(0, len(self.line), place):
            raise Refused("Unfit")
        if book_fault(self.n, book) is not None:
            raise Refused("BadBook", book_fault(self.n, book))
        if len(self.line) == 6:
            raise Refused("TooMany", 6)
        way = list(self.sorted_ways()[0])
        if place < len(way) and way[place] is not None:
            raise Refused("Unfit")
        self.line.insert(place, book)
        way.insert(place, None)
        self.ways = {tuple(way)}
        return ()

    def do_take(self, place):
        if not is_from(0, len(self.line) - 1, place):
            raise Refused("Unfit")
        way = list(self.sorted_ways()[0])
        thing = way.pop(place)
        del self.line[place]
        bays = Bays(self.line, way)
        if thing is not None:
            bays.come(thing, place)
        self.ways = {tuple(bays.held)}
        return self.give_out(bays.out)

    def do_come(self, kind):
        if not is_from(0, self.n - 1, kind):
            raise Refused("Unfit")
        self.inside.append((len(self.inside) + len(self.outs), kind))
        ways, outs = set(), set()
        for way in self.ways:
            bays = Bays(self.line, way)
            bays.come(kind)
            ways.add(tuple(bays.held))
            outs.add(tuple(bays.out))
        # All ways go on alike ([M6]).
        assert len(outs) == 1, (self.line, self.ways, kind)
        self.ways = ways
        return self.give_out(outs.pop())

    def do_change(self, place):
        if not is_from(0, len(self.line) - 2, place):
            raise Refused("Unfit")
        one, other = self.line[place:place + 2]
        if one == other:
            raise Refused("Unfit")
        why = told_blocked(self.n, one, other)
        if why is not None:
            raise Refused("Blocked", why)
        self.ways = {
            way[:place] + held + way[place + 2:] for way in self.ways
            for held in told_changed(self.n, one, other, way[place:place + 2])
        }
        if not self.ways:
            raise Refused("Unfit")
        self.line[place:place + 2] = [other, one]
        return ()

    def do_end(self):
        outs = {told_ending(self.line, way) for way in self.ways}
        assert len(outs) == 1, (self.line, self.ways)
        self.ways = {(None,) * len(self.line)}
        return self.give_out(outs.pop())

    def may(self):
        found = []
        for place in range(len(self.line)):
            try:
                self.twin().do_change(place)
                found.append(place)
            except Refused:
                pass
        return tuple(found)

    def rest(self):
        return self.twin().do_end()

    def undo(self):
        if not self.log:
            raise Refused("NothingToUndo")
        vars(self).update(vars(self.ahead[-1].twin()))
        return len(self.log)

    def at(self, version):
        if not is_from(0, len(self.log), version):
            raise Refused("Unfit")
        then = (self.ahead + [self])[version]
        return (tuple(then.line), then.held(), tuple(then.outs))


def draw_books(draw, n):
    """Return a list of books of n, parts of one another mostly, so that bays may change places."""
    book, more = draw_book(draw, n), draw_book(draw, n)
    books = [book, (), more] + [draw_part(draw, n, draw.choice((book, book, more))) for _ in range(3)]
    return books + [(pair,) for pair in draw.sample(book, min(2, len(book)))]


def draw_edit(draw, desk, books):
    """Return an edit that can mostly be done at a desk, a plain one or one of the package."""
    bays, place = len(desk.line), draw.randint(0, max(0, len(desk.line) - 1))
    ways = ["come"] * 5 + ["change"] * 4 + ["take"] + ["end"] + ["put"] * (1 if bays > 3 else 4)
    way = draw.choice(ways)
    if way == "put":
        # Behind all that hold something a bay may always be put in.
        last = len([kind for kind in desk.standing if kind is not None])
        return ("put", draw.choice((bays, last, last, place)), draw.choice(books))
    if way == "take" and (bays > 3 or draw.random() < 0.3):
        return ("take", place)
    if way == "change":
        may = desk.may()
        return ("change", draw.choice(may) if may and draw.random() < 0.8 else max(0, place - 1))
    if way == "end" and draw.random() < 0.4:
        return ("end",)
    return ("come", draw.randrange(desk.n))


def wrong_books(n):
    """Return values of every sort none of which is a book of n."""
    more = [((0, n),), ((0, 0),), ((0, True),), (5,), ("a>b",), ((0,),), ([0, 1],), ((0, 1, 2),), (None,), nested(9)]
    if n > 1:
        more += [((1, 0), (0, 1)), ((0, 1), (0, 1)), ((0, 1), (1, 0)), [(0, 1)]]
    return no_tuples() + more


def draw_wrong_edit(draw, n, books):
    """Return an edit with any values at its places, most of them wrong."""
    word = draw.choice(("put", "take", "come", "change"))
    value = draw.choice(no_kinds(n) + list(range(7)))
    if word == "put":
        return ("put", value if draw.random() < 0.5 else 0, draw.choice(wrong_books(n) + books))
    return (word, value)
