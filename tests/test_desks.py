"""[A2](a), [A3] and [M1] to [M6] of the document: desks."""

import collections
import copy
import itertools
import unittest

from baylines import errors
from baylines.desks import Desk, desk_behind
from baylines.errors import BadBook, BadLog, BayError, Blocked, NothingToUndo, TooMany, TooManyEdits, Unfit
from tests.bays import marked_whole, told_blocked, told_ending
from tests.drawn import chance, draw_fitting_line, full_book
from tests.examples import check
from tests.plaindesk import PlainDesk, Refused, draw_books, draw_edit, draw_wrong_edit, wrong_books
from tests.values import nested, no_kinds, no_tuples

EXAMPLES = """
    >>> from baylines.desks import Desk, desk_behind
    >>> slow, d = ((0, 1), (0, 2)), Desk(3)
    >>> d.put(0, slow), d.put(1, ()), d.put(2, ()), d.come(2), d.come(1), d.come(0)
    ((), (), (), (), (), ())
    >>> d.standing, d.held, d.rest(), d.may()
    ((1, 0, 2), ((1, 1), (2, 0), (0, 2)), ((0, 2), (2, 0), (1, 1)), (0,))
    >>> d.change(0), d.line, d.ways, d.held
    ((), ((), ((0, 1), (0, 2)), ()), ((0, 1, 2), (1, 0, 2)), ((2, 0), (1, 1), (0, 2)))
    >>> d.may(), d.change(1), d.line == ((), (), slow), d.ways, d.rest()
    ((0, 1), (), True, ((0, 1, 2),), ((0, 2), (2, 0), (1, 1)))
    >>> d.come(2), d.held, d.rest()
    (((0, 2),), ((3, 2), (2, 0), (1, 1)), ((2, 0), (1, 1), (3, 2)))
    >>> d.take(2), d.line, d.held, d.outs
    (((1, 1),), ((), ()), ((3, 2), (2, 0)), ((0, 2), (1, 1)))
    >>> d.put(1, slow)
    raises Unfit()
    >>> d.put(2, slow), d.held, d.end(), d.held
    ((), ((3, 2), (2, 0), None), ((2, 0), (3, 2)), (None, None, None))
    >>> d.version, d.undo(), d.held, d.log[8:], d.at(6)[1:]
    (12, 11, ((3, 2), (2, 0), None), (('come', 2), ('take', 2), ('put', 2, ((0, 1), (0, 2)))), (((1, 1), (2, 0), (0, 2)), ()))
    >>> e = Desk(3)
    >>> e.put(0, ((2, 1),)), e.put(1, slow), e.put(2, ()), [e.come(kind) for kind in (1, 0, 0, 2)], e.standing
    ((), (), (), [(), (), (), ((1, 0),)], (2, 1, 0))
    >>> e.take(1), e.line, e.standing, e.may()
    (((2, 0),), (((2, 1),), ()), (2, 1), ())
    >>> e.change(0)
    raises Unfit()
    >>> e.change(1)
    raises Unfit()
    >>> e.undo(), e.standing, e.may(), e.change(1)
    (7, (2, 1, 0), (1,), ())
    >>> e.put(4, ())
    raises Unfit()
    >>> e.put(3, ((0, 0),))
    raises BadBook(('self', 0))
    >>> e.come(3)
    raises Unfit()
    >>> f = Desk(3)
    >>> f.put(0, slow), f.put(1, ((1, 2),)), f.end(), f.may()
    ((), (), (), ())
    >>> f.change(0)
    raises Blocked(('common', 0, 1))
    >>> desk_behind(3, d.log) == d, desk_behind(3, ()).line, desk_behind(2, (("put", 0, ()), ("come", 1))).held
    (True, (), ((0, 1),))
    >>> desk_behind(3, [])
    raises BadLog(0)
    >>> desk_behind(3, (("put", 0, ()), ("come",)))
    raises BadLog(1)
    >>> desk_behind(3, (("put", 0, ()), ("end",), ("undo",), ("come", 9)))
    raises BadLog(2)
"""

PROPERTIES = ("n", "line", "ways", "standing", "held", "outs", "version", "log")
NAMES = {"put": ("place", "book"), "take": ("place",), "come": ("kind",), "change": ("place",), "end": ()}
SLOW = ((0, 1), (0, 2))


def shown(desk):
    """Return all that a desk tells by its properties."""
    return tuple([getattr(desk, name) for name in PROPERTIES])


def every_way(desk):
    """Return all that a desk tells, whatever is asked."""
    return (shown(desk), desk.may(), desk.rest(), [desk.at(version) for version in range(desk.version + 1)])


def outcome(call, *values, **named):
    """Return what a call returned, or the name of its error and what that keeps."""
    try:
        return ("returned", repr(call(*values, **named)))
    except BayError as error:
        return (type(error).__name__, repr(list(vars(error).values())))


def told_outcome(call, *values):
    """Return the same of a call that raises Refused."""
    try:
        return ("returned", repr(call(*values)))
    except Refused as error:
        return (error.args[0], repr(list(error.args[1:])))


def do(desk, edit):
    """Do an edit at a desk."""
    return getattr(desk, edit[0])(*edit[1:])


def led(n, edits):
    """Return a desk of n behind edits."""
    desk = Desk(n)
    for edit in edits:
        do(desk, edit)
    return desk


def draw_desk(draw, n, many=30):
    """Return a desk of n behind drawn edits, and the books they were drawn with."""
    desk, books = Desk(n), draw_books(draw, n)
    for _ in range(many):
        try:
            do(desk, draw_edit(draw, desk, books))
        except BayError:
            pass
    return desk, books


def drawn_desks(seed, many, edits=30):
    """Yield (draw, desk, books) again and again, each n from 1 to 8 among them."""
    draw = chance(seed)
    for count in range(many):
        yield (draw,) + draw_desk(draw, count % 8 + 1, draw.randint(0, edits))


class Examples(unittest.TestCase):

    def test_as_they_stand_in_the_document(self):
        check(self, EXAMPLES)


class Making(unittest.TestCase):

    def test_a_new_desk(self):
        for n in range(1, 9):
            for desk in (Desk(n), Desk(n=n), desk_behind(n, ())):
                self.assertEqual(repr(shown(desk)), repr((n, (), ((),), (), (), (), 0, ())))
                self.assertEqual((desk.may(), desk.rest(), desk.at(0)), ((), (), ((), (), ())))

    def test_no_kinds(self):
        for n in no_kinds(9) + [0, nested(5), (3,), "3", 8 + 10 ** 30]:
            self.assertEqual(outcome(Desk, n), ("Unfit", "[]"), n)
            self.assertEqual(outcome(Desk, n=n), ("Unfit", "[]"), n)

    def test_properties_can_only_be_read(self):
        desk = led(3, [("put", 0, SLOW), ("come", 2)])
        before = shown(desk)
        for name in PROPERTIES:
            with self.assertRaises(AttributeError):
                setattr(desk, name, getattr(desk, name))
            self.assertIsInstance(vars(Desk)[name], property)
        self.assertEqual(shown(desk), before)

    def test_no_bay(self):
        desk = Desk(3)
        self.assertEqual([desk.come(kind) for kind in (2, 0, 2)], [((0, 2),), ((1, 0),), ((2, 2),)])
        self.assertEqual(desk.end(), ())
        self.assertEqual(desk.outs, ((0, 2), (1, 0), (2, 2)))
        self.assertEqual((desk.held, desk.ways, desk.version), ((), ((),), 4))


class Edits(unittest.TestCase):

    def check_call(self, desk, plain, word, *values):
        """Check a method by the plain desk, a copy of the desk being asked by the told names."""
        told = told_outcome(getattr(plain, word) if word in ("undo", "at", "may", "rest") else plain.do,
                            *(values if word in ("undo", "at", "may", "rest") else (word,) + values))
        names = NAMES.get(word, ("version",))
        before, kept = copy.deepcopy(values), every_way(desk)
        other = desk.copy()
        self.assertEqual(outcome(getattr(other, word), **dict(zip(names, values))), told, (word, values))
        self.assertEqual(every_way(desk), kept)
        self.assertEqual(outcome(getattr(desk, word), *values), told, (word, values))
        self.assertEqual(repr(values), repr(before))
        if told[0] != "returned":
            self.assertEqual(every_way(desk), kept)
        self.assertEqual(every_way(desk), every_way(other))
        return told[0]

    def check_shown(self, desk, plain):
        self.assertEqual(repr(shown(desk)), repr(plain.shown()))
        self.assertEqual(repr(desk.may()), repr(plain.may()))
        self.assertEqual(repr(desk.rest()), repr(plain.rest()))

    def test_drawn_edits(self):
        draw = chance(501)
        found, ways = collections.Counter(), 0
        for count in range(48):
            n = count % 8 + 1
            desk, plain, books = Desk(n), PlainDesk(n), draw_books(draw, n)
            for _ in range(draw.choice((20, 30, 90))):
                edit = draw_edit(draw, desk, books)
                if draw.random() < 0.1:
                    edit = draw_wrong_edit(draw, n, books)
                if draw.random() < 0.04:
                    edit = ("undo",)
                found[edit[0], self.check_call(desk, plain, *edit)] += 1
                self.check_shown(desk, plain)
                ways = max(ways, len(desk.ways))
            for version in range(-1, desk.version + 2):
                self.check_call(desk, plain, "at", version)
        for word in ("put", "take", "come", "change", "end", "undo"):
            self.assertGreater(found[word, "returned"], 20, found)
        for told in (("put", "Unfit"), ("put", "BadBook"), ("put", "TooMany"), ("take", "Unfit"), ("come", "Unfit"),
                     ("change", "Unfit"), ("change", "Blocked"), ("come", "TooManyEdits")):
            self.assertGreater(found[told], 0, found)
        self.assertGreater(ways, 2)

    def test_all_things_that_come_to_few_bays(self):
        for line in ((), ((),), (SLOW, ()), (full_book(3), ((1, 2),), ())):
            for row in itertools.product(range(3), repeat=4):
                desk = led(3, [("put", place, book) for place, book in enumerate(line)])
                given = [desk.come(kind) for kind in row] + [desk.end()]
                marked = [(place, kind) for kind, place in marked_whole(line, row)]
                self.assertEqual([pair for part in given for pair in part], marked)
                self.assertEqual(list(desk.outs), marked)

    def test_put_errors_in_their_order(self):
        desk = led(3, [("put", 0, SLOW), ("come", 1)])
        for place in no_kinds(2):
            for book in ((), SLOW, None, ((0, 0),)):
                self.assertEqual(outcome(desk.put, place, book), ("Unfit", "[]"))
        for book in wrong_books(3):
            told = outcome(desk.put, 0, book)
            self.assertEqual(told[0], "BadBook", book)
            self.assertEqual(outcome(desk.put, 1, book), told)
        self.assertEqual(outcome(desk.put, 0, ()), ("Unfit", "[]"))
        for place in range(1, 6):
            desk.put(place, ())
        for place in range(7):
            self.assertEqual(outcome(desk.put, place, ()), ("TooMany", "[6]"))
            self.assertEqual(outcome(desk.put, place, ((1, 1),)), ("BadBook", "[('self', 1)]"))
        for place in (-1, 7, None, True):
            self.assertEqual(outcome(desk.put, place, ((1, 1),)), ("Unfit", "[]"))

    def test_put_ahead_of_bays_that_hold_nothing(self):
        desk = led(3, [("put", 0, ()), ("put", 0, SLOW), ("put", 1, full_book(3))])
        self.assertEqual(desk.line, (SLOW, full_book(3), ()))
        desk.come(2)
        self.assertEqual(outcome(desk.put, 0, ()), ("Unfit", "[]"))
        self.assertEqual(desk.put(1, ((2, 0),)), ())
        self.assertEqual(desk.line, (SLOW, ((2, 0),), full_book(3), ()))
        self.assertEqual(desk.held, ((0, 2), None, None, None))
        self.assertEqual(desk.put(4, ()), ())
        self.assertEqual(desk.standing, (2, None, None, None, None))

    def test_put_and_take_leave_the_way_that_is_shown(self):
        begun = [("put", 0, SLOW), ("put", 1, ()), ("put", 2, ()), ("put", 3, ()), ("come", 2), ("come", 1), ("come", 0),
                 ("change", 0)]
        desk = led(3, begun)
        self.assertEqual(desk.ways, ((0, 1, 2, None), (1, 0, 2, None)))
        other = desk.copy()
        desk.put(3, SLOW)
        self.assertEqual(desk.ways, ((0, 1, 2, None, None),))
        # A bay that holds nothing makes nothing go on, but one way is left all the same.
        self.assertEqual(other.take(3), ())
        self.assertEqual(other.ways, ((0, 1, 2),))
        self.assertEqual(other.line, ((), SLOW, ()))

    def test_take_errors(self):
        desk = led(3, [("put", 0, SLOW), ("put", 1, ())])
        for place in no_kinds(2) + [-2, 3]:
            self.assertEqual(outcome(desk.take, place), ("Unfit", "[]"), place)
        self.assertEqual(outcome(Desk(3).take, 0), ("Unfit", "[]"))

    def test_take_and_what_the_bay_held(self):
        desk = led(3, [("put", 0, SLOW), ("put", 1, ()), ("put", 2, ()), ("come", 2), ("come", 1)])
        self.assertEqual((desk.held, desk.take(0)), (((1, 1), (0, 2), None), ()))
        self.assertEqual((desk.held, desk.line), (((1, 1), (0, 2)), ((), ())))
        self.assertEqual((desk.take(1), desk.held), (((0, 2),), ((1, 1),)))
        self.assertEqual((desk.take(0), desk.held, desk.line, desk.ways), (((1, 1),), (), (), ((),)))
        self.assertEqual(desk.outs, ((0, 2), (1, 1)))

    def test_come_errors(self):
        for n in range(1, 9):
            desk = led(n, [("put", 0, ())])
            for kind in no_kinds(n):
                self.assertEqual(outcome(desk.come, kind), ("Unfit", "[]"), kind)
            self.assertEqual(desk.come(n - 1), ())

    def test_change_errors_in_their_order(self):
        desk = led(3, [("put", 0, SLOW), ("put", 1, SLOW), ("put", 2, ((1, 2),)), ("put", 3, ((2, 1),))])
        for place in no_kinds(3) + [3, 4]:
            self.assertEqual(outcome(desk.change, place), ("Unfit", "[]"), place)
        self.assertEqual(outcome(desk.change, 0), ("Unfit", "[]"))
        self.assertEqual(outcome(desk.change, 1), ("Blocked", "[('common', 0, 1)]"))
        self.assertEqual(outcome(desk.change, 2), ("Blocked", "[('common', 1, 2)]"))
        for bays in (0, 1):
            few = led(3, [("put", 0, SLOW)] * bays)
            for place in (-1, 0, 1):
                self.assertEqual(outcome(few.change, place), ("Unfit", "[]"))

    def test_a_change_that_leaves_no_way(self):
        edits = [("put", 0, ((2, 1),)), ("put", 1, SLOW), ("put", 2, ())]
        desk = led(3, edits + [("come", kind) for kind in (1, 0, 0, 2)] + [("take", 1)])
        self.assertEqual((desk.standing, told_blocked(3, *desk.line)), ((2, 1), None))
        self.assertEqual(outcome(desk.change, 0), ("Unfit", "[]"))
        self.assertEqual(desk.may(), ())
        # When nothing of this is held any more the bays may change.
        desk.end()
        self.assertEqual((desk.may(), desk.change(0)), ((0,), ()))

    def test_ways_that_become_one(self):
        desk = led(3, [("put", 0, SLOW), ("put", 1, ()), ("put", 2, ())] + [("come", kind) for kind in (2, 1, 0)])
        desk.change(0)
        self.assertEqual(len(desk.ways), 2)
        desk.come(2)
        self.assertEqual(len(set(desk.ways)), len(desk.ways))
        desk.end()
        self.assertEqual(desk.ways, ((None, None, None),))

    def test_end(self):
        for _, desk, _ in drawn_desks(502, 60):
            if desk.version < 60:
                line, rest, outs = desk.line, desk.rest(), desk.outs
                self.assertEqual(desk.end(), rest)
                self.assertEqual((desk.line, desk.outs), (line, outs + rest))
                self.assertEqual(desk.ways, ((None,) * len(line),))
                self.assertEqual(desk.held, (None,) * len(line))
                self.assertEqual(desk.end(), ())

    def test_the_words_of_the_log(self):
        desk = led(3, [("put", 0, SLOW), ("put", 1, ()), ("come", 2), ("change", 0), ("take", 1), ("end",)])
        wanted = (("put", 0, SLOW), ("put", 1, ()), ("come", 2), ("change", 0), ("take", 1), ("end",))
        self.assertEqual(repr(desk.log), repr(wanted))


class SixtyEdits(unittest.TestCase):

    def full_desk(self):
        """Return a desk behind sixty edits, with six bays, some of which hold things."""
        books = (SLOW, SLOW, ((1, 2),), ())
        edits = [("put", place, book) for place, book in enumerate(books)] + [("come", 2)] * 53
        return led(3, edits + [("put", 4, ()), ("take", 4), ("put", 4, SLOW)])

    def test_sixty_edits_and_one_more(self):
        desk = self.full_desk()
        self.assertEqual(desk.version, 60)
        before = every_way(desk)
        for call, values in (
            (desk.put, (5, ())), (desk.take, (0,)), (desk.come, (1,)), (desk.change, (2,)), (desk.end, ()),
        ):
            self.assertEqual(outcome(call, *values), ("TooManyEdits", "[]"))
            self.assertEqual(every_way(desk), before)

    def test_it_stands_behind_all_other_errors(self):
        desk = self.full_desk()
        for call, values, error in (
            (desk.put, (7, ()), Unfit()), (desk.put, (0, ((0, 0),)), BadBook(("self", 0))), (desk.put, (0, ()), Unfit()),
            (desk.take, (5,), Unfit()), (desk.come, (3,), Unfit()), (desk.change, (0,), Unfit()),
            (desk.change, (1,), Blocked(("common", 0, 1))), (desk.change, (4,), Unfit()),
        ):
            self.assertEqual(outcome(call, *values), (type(error).__name__, repr(list(vars(error).values()))))
        full = led(3, [("put", place, ()) for place in range(6)] + [("end",)] * 54)
        self.assertEqual(outcome(full.put, 0, ()), ("TooMany", "[6]"))
        self.assertEqual(outcome(full.end), ("TooManyEdits", "[]"))

    def test_a_change_without_a_way_and_sixty_edits(self):
        edits = [("put", 0, ((2, 1),)), ("put", 1, SLOW), ("put", 2, ())]
        edits += [("come", kind) for kind in (1, 0, 0, 2)] + [("take", 1)] + [("put", 2, ()), ("take", 2)] * 26
        desk = led(3, edits)
        self.assertEqual((desk.version, desk.standing), (60, (2, 1)))
        self.assertEqual(outcome(desk.change, 0), ("Unfit", "[]"))

    def test_may_and_rest_do_not_ask_how_many_edits_stand(self):
        desk = self.full_desk()
        self.assertEqual(desk.may(), (2, 3))
        self.assertEqual(len(desk.rest()), 4)
        self.assertEqual(desk.undo(), 59)
        self.assertEqual(desk.change(2), ())

    def test_edits_that_were_taken_back_do_not_count(self):
        desk = led(2, [("end",)] * 59)
        for _ in range(5):
            self.assertEqual((desk.end(), desk.version), ((), 60))
            self.assertEqual(outcome(desk.end), ("TooManyEdits", "[]"))
            self.assertEqual(desk.undo(), 59)


class Versions(unittest.TestCase):

    def test_undo_leads_back_all_the_way(self):
        for _, desk, _ in drawn_desks(503, 48):
            log = desk.log
            for many in range(len(log) - 1, -1, -1):
                self.assertEqual(desk.undo(), many)
                self.assertEqual(shown(desk), shown(led(desk.n, log[:many])))
            before = every_way(desk)
            self.assertEqual(outcome(desk.undo), ("NothingToUndo", "[]"))
            self.assertEqual(every_way(desk), before)
            self.assertEqual(desk, Desk(desk.n))

    def test_tickets_that_were_taken_back(self):
        desk = led(2, [("put", 0, ()), ("come", 1), ("come", 0)])
        self.assertEqual(desk.outs, ((0, 1),))
        desk.undo()
        self.assertEqual((desk.outs, desk.held), ((), ((0, 1),)))
        desk.come(1)
        self.assertEqual((desk.outs, desk.held), (((0, 1),), ((1, 1),)))

    def test_at(self):
        for _, desk, _ in drawn_desks(504, 48):
            for version in range(desk.version + 1):
                then = led(desk.n, desk.log[:version])
                self.assertEqual(repr(desk.at(version)), repr((then.line, then.held, then.outs)))
                self.assertEqual(desk.at(version=version), desk.at(version))
            for version in (-1, desk.version + 1, 60 + desk.version, 10 ** 30):
                self.assertEqual(outcome(desk.at, version), ("Unfit", "[]"))

    def test_at_of_any_value(self):
        desk = led(2, [("put", 0, ()), ("come", 1), ("end",)])
        for version in no_kinds(4):
            self.assertEqual(outcome(desk.at, version), ("Unfit", "[]"), version)

    def test_at_tells_the_way_that_was_shown(self):
        desk = led(3, [("put", 0, SLOW), ("put", 1, ()), ("put", 2, ()), ("come", 2), ("come", 1), ("come", 0)])
        desk.change(0)
        desk.change(1)
        self.assertEqual(desk.at(6), ((SLOW, (), ()), ((1, 1), (2, 0), (0, 2)), ()))
        self.assertEqual(desk.at(7), (((), SLOW, ()), ((2, 0), (1, 1), (0, 2)), ()))

    def test_a_copy_and_the_first_desk_do_not_change_with_one_another(self):
        for draw, desk, books in drawn_desks(505, 60):
            other = desk.copy()
            before = every_way(desk)
            self.assertIsNot(other, desk)
            self.assertEqual((other, other.log, every_way(other)), (desk, desk.log, before))
            for _ in range(6):
                outcome(do, other, draw_edit(draw, other, books))
            outcome(other.undo)
            self.assertEqual(every_way(desk), before)
            third, kept = other.copy(), every_way(other)
            for _ in range(3):
                outcome(desk.undo)
                outcome(do, desk, draw_edit(draw, desk, books))
            self.assertEqual(every_way(other), kept)
            self.assertEqual(every_way(third), kept)

    def test_what_was_returned_does_not_change(self):
        for draw, desk, books in drawn_desks(506, 40):
            told = every_way(desk)
            before = repr(told)
            for _ in range(10):
                outcome(do, desk, draw_edit(draw, desk, books))
            self.assertEqual(repr(told), before)


class Equality(unittest.TestCase):

    def check(self, one, other, equal):
        self.assertIs(one == other, equal)
        self.assertIs(other == one, equal)
        self.assertIs(one != other, not equal)
        self.assertIs(other != one, not equal)

    def test_what_came_by_other_edits(self):
        one = led(3, [("put", 0, SLOW), ("put", 1, ())])
        other = led(3, [("put", 0, ()), ("put", 0, SLOW), ("put", 2, full_book(3)), ("take", 2), ("end",)])
        self.check(one, other, True)
        self.assertNotEqual(one.log, other.log)
        self.check(one, led(3, [("put", 0, ()), ("put", 1, SLOW), ("change", 0)]), True)
        self.check(one, one.copy(), True)
        self.check(one, one, True)

    def test_unlike_desks(self):
        one = led(3, [("put", 0, SLOW), ("put", 1, ()), ("come", 1)])
        for other in (
            Desk(3), led(4, [("put", 0, SLOW), ("put", 1, ()), ("come", 1)]),
            led(3, [("put", 0, SLOW), ("come", 1)]), led(3, [("put", 0, SLOW), ("put", 1, ()), ("come", 2)]),
            led(3, [("come", 1), ("put", 0, SLOW), ("put", 1, ()), ("come", 1)]),
            led(3, [("put", 0, ()), ("put", 1, SLOW), ("come", 1)]),
        ):
            self.check(one, other, False)

    def test_unlike_tickets_alone(self):
        # The same kinds are held, but of other things: once 0 has passed 1, once it came first.
        line = [("put", 0, ((0, 1),)), ("put", 1, ())]
        one, other = led(2, line + [("come", 1), ("come", 0)]), led(2, line + [("come", 0), ("come", 1)])
        self.assertEqual((one.line, one.ways, one.outs), (other.line, other.ways, other.outs))
        self.assertEqual((one.held, other.held), (((0, 1), (1, 0)), ((1, 1), (0, 0))))
        self.check(one, other, False)

    def test_unlike_outs_alone(self):
        # The thing that came out was of another kind, or another one of its kind.
        line = [("put", 0, ())]
        one, other = led(3, [("come", 1)] + line), led(3, [("come", 0)] + line)
        self.check(one, other, False)
        one, other = led(2, [("come", 0), ("come", 1)]), led(2, [("come", 1), ("come", 0)])
        self.assertEqual((one.line, one.ways, one.held), (other.line, other.ways, other.held))
        self.check(one, other, False)

    def test_unlike_ways_alone(self):
        edits = [("put", 0, SLOW), ("put", 1, ()), ("put", 2, ()), ("come", 2), ("come", 1), ("come", 0), ("change", 0)]
        one = led(3, edits)
        # The bay that is put in and taken out leaves one way.
        other = led(3, edits[:2] + edits[2:] + [("put", 3, ()), ("take", 3)])
        self.assertEqual((one.line, one.held, one.outs), (other.line, other.held, other.outs))
        self.check(one, other, False)

    def test_nothing_else_is_equal(self):
        for desk in (Desk(1), led(2, [("put", 0, ()), ("come", 1)])):
            for value in no_tuples() + [(), nested(4), shown(desk), desk.log, Desk, "Desk"]:
                self.check(desk, value, False)

    def test_drawn_desks(self):
        equal = 0
        for draw, desk, books in drawn_desks(507, 60, 12):
            other = led(desk.n, desk.log)
            self.check(desk, other, True)
            outcome(do, other, draw_edit(draw, other, books))
            same = [getattr(desk, name) == getattr(other, name) for name in ("n", "line", "ways", "held", "outs")]
            equal += all(same)
            self.check(desk, other, all(same))
        self.assertGreater(equal, 3)


class DeskBehind(unittest.TestCase):

    def check_log(self, n, value, place):
        """Check that desk_behind raises BadLog(place), or nothing where place is None."""
        before = copy.deepcopy(value)
        for told in (outcome(desk_behind, n, value), outcome(desk_behind, value=value, n=n)):
            self.assertEqual(told[0] if place is None else told, "returned" if place is None else ("BadLog", f"[{place}]"))
        self.assertEqual(repr(value), repr(before))

    def test_logs_of_drawn_desks(self):
        for _, desk, _ in drawn_desks(508, 60):
            other = desk_behind(desk.n, desk.log)
            self.assertIs(type(other), Desk)
            self.assertEqual((other, every_way(other)), (desk, every_way(desk)))
            self.assertIsNot(desk_behind(desk.n, desk.log), other)

    def test_no_tuples(self):
        for value in no_tuples():
            self.check_log(3, value, 0)

    def test_no_edits(self):
        good = (("put", 0, SLOW), ("come", 2))
        for item in no_kinds(3) + [
            (), ("put",), ("put", 0), ("put", 0, (), ()), ("take",), ("take", 0, 0), ("come",), ("come", 0, 0),
            ("change",), ("change", 0, 0), ("end", 0), ("end", ()), ["end"], ["put", 0, ()], ("undo",), ("may",), ("rest",),
            ("copy",), ("at", 0), ("n",), ("_edit", ("end",), None), (5,), (None,), (("end",),), ({"end": 1},), (["end"],),
            ("End",), ("end ",), ("",), "end", {"end": 0}, (True, 0), ("__init__", 3), nested(19),
        ]:
            self.check_log(3, (item,), 0)
            self.check_log(3, good + (item,) + (None,), 2)

    def test_edits_that_raise(self):
        good = (("put", 0, SLOW), ("put", 1, ((1, 2),)), ("come", 2))
        for edit in (
            ("put", 3, ()), ("put", 0, ()), ("put", 1, ((0, 0),)), ("put", 1, None), ("put", None, ()), ("take", 2),
            ("take", True), ("come", 3), ("come", "a"), ("come", [0]), ("change", 0), ("change", 1), ("change", {}),
        ):
            self.check_log(3, good + (edit,), 3)
            self.check_log(3, good + (edit, ("end",), ("bad",)), 3)
            self.check_log(3, good + (("end",), edit, 5), 4 if edit != ("put", 0, ()) else 5)

    def test_sixty_edits_and_one_more(self):
        self.check_log(2, (("end",),) * 60, None)
        self.check_log(2, (("end",),) * 61, 60)
        self.check_log(2, (("end",),) * 4000, 60)
        self.check_log(2, (("come", 1),) * 60 + (("nothing",),), 60)
        self.check_log(2, tuple([("put", place, ()) for place in range(7)]), 6)

    def test_the_first_item_that_fails(self):
        draw = chance(509)
        found = collections.Counter()
        for count in range(160):
            n = count % 8 + 1
            plain, books, place = PlainDesk(n), draw_books(draw, n), None
            edits = []
            for _ in range(draw.randint(1, 20)):
                edit = draw_edit(draw, plain, books)
                if draw.random() < 0.04:
                    edit = draw_wrong_edit(draw, n, books)
                edits.append(edit)
                if place is None and told_outcome(plain.do, *edit)[0] != "returned":
                    place = len(edits) - 1
            self.check_log(n, tuple(edits), place)
            found[place is None] += 1
        self.assertGreater(min(found[True], found[False]), 10)


class WhatHolds(unittest.TestCase):

    def test_each_ticket_stands_once(self):
        for _, desk, _ in drawn_desks(510, 120, 60):
            pairs = [pair for pair in desk.held if pair is not None] + list(desk.outs)
            came = [edit[1] for edit in desk.log if edit[0] == "come"]
            self.assertEqual(sorted(pairs), list(enumerate(came)))
            self.assertEqual(tuple([pair and pair[1] for pair in desk.held]), desk.standing)

    def test_all_ways_go_on_alike(self):
        draw = chance(511)
        several = 0
        for count in range(100):
            desk, books = Desk(count % 4 + 2), draw_books(draw, count % 4 + 2)
            for _ in range(60):
                outcome(do, desk, draw_edit(draw, desk, books))
                several += len(desk.ways) > 1
                self.assertEqual(len({way.count(None) for way in desk.ways}), 1)
                self.assertEqual(len({told_ending(desk.line, way) for way in desk.ways}), 1)
                self.assertEqual(tuple([kind for _, kind in desk.rest()]), told_ending(desk.line, desk.standing))
        self.assertGreater(several, 100)

    def test_a_change_changes_nothing_that_comes_out(self):
        changes = 0
        for draw, desk, _ in drawn_desks(512, 160, 25):
            other = desk.copy()
            for _ in range(draw.randint(1, 4)):
                if other.may():
                    changes += 1
                    self.assertEqual(other.change(draw.choice(other.may())), ())
            self.assertEqual(other.rest(), desk.rest())
            for _ in range(12):
                kind = draw.randrange(desk.n)
                self.assertEqual(other.come(kind), desk.come(kind))
                self.assertEqual(other.rest(), desk.rest())
            self.assertEqual((other.end(), other.outs), (desk.end(), desk.outs))
        self.assertGreater(changes, 100)

    def test_since_a_moment_at_which_nothing_is_held(self):
        draw = chance(513)
        changes = 0
        for count in range(160):
            n = count % 8 + 1
            line = draw_fitting_line(draw, n)
            desk = led(n, [("come", kind % n) for kind in range(count % 3)])
            for place, book in enumerate(line):
                desk.put(place, book)
            if draw.random() < 0.5 and line:
                desk.come(0)
                desk.end()
            first, came_out, row = sum(edit[0] == "come" for edit in desk.log), len(desk.outs), []
            while desk.version < 58:
                for place in range(len(desk.line) - 1):
                    self.check_may(desk, place)
                if desk.may() and draw.random() < 0.5:
                    changes += 1
                    desk.change(draw.choice(desk.may()))
                else:
                    row.append(draw.randrange(n))
                    desk.come(row[-1])
                marked = [(first + place, kind) for kind, place in marked_whole(line, row)]
                self.assertEqual(list(desk.outs[came_out:] + desk.rest()), marked)
        self.assertGreater(changes, 500)

    def check_may(self, desk, place):
        """Check that where two bays may change places they may do so now."""
        one, other = desk.line[place:place + 2]
        why = told_blocked(desk.n, one, other)
        if one == other:
            wanted = "Unfit"
        else:
            wanted = "returned" if why is None else "Blocked"
        self.assertEqual(outcome(desk.copy().change, place)[0], wanted)
        self.assertIs(place in desk.may(), wanted == "returned")

    def test_may_tells_just_where_change_raises_nothing(self):
        for _, desk, _ in drawn_desks(514, 160, 60):
            told = [place for place in range(-2, 8)
                    if outcome(desk.copy().change, place)[0] in ("returned", "TooManyEdits")]
            self.assertEqual(desk.may(), tuple(told))

    def test_the_errors_are_those_of_the_package(self):
        for error in (BadBook, BadLog, Blocked, NothingToUndo, TooMany, TooManyEdits, Unfit):
            self.assertIs(getattr(errors, error.__name__), error)


if __name__ == "__main__":
    unittest.main()
