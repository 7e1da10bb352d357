"""[A3], [L1] and [L3] of the document: plants."""

import unittest

from baylines.errors import NoName
from baylines.plants import book_in, line_in, plant_error
from tests.drawn import chance, full_book
from tests.examples import check
from tests.plantings import KEYWORDS, draw_plant
from tests.values import check_error, check_returns, nested, no_kinds, no_tuples

EXAMPLES = """
    >>> from baylines.plants import book_in, line_in, plant_error
    >>> small = (("red", "tan"), (("up", ((0, 1),)), ("idle", ())), (("main", (((0, 1),), ())), ("off", ())))
    >>> [plant_error(value) for value in (small, small[:2], ((), (), ()), (("red", "red"), (), ()), (("red",), (("up", ((0, 1),)),), ()), (("red",), (("red", ()),), ()))]
    [None, 'form', 'form', ('kind', 1), ('book', 0), ('book', 0)]
    >>> [plant_error(value) for value in ((("red", "tan"), (), (("main", ()),)), (("red", "tan"), (("up", ()),), (("main", (((0, 1),),)),)), small[:2] + ((("up", ()),),), list(small))]
    [('line', 0), ('line', 0), ('line', 0), 'form']
    >>> book_in(small, "up"), line_in(small, "main"), line_in(small, "off")
    (((0, 1),), (((0, 1),), ()), ())
    >>> book_in(small, "main")
    raises NoName('main')
    >>> line_in(small, "red")
    raises NoName('red')
"""

SMALL = (("red", "tan"), (("up", ((0, 1),)), ("idle", ())), (("main", (((0, 1),), ())), ("off", ())))


def no_names():
    """Return values of every sort none of which is a name."""
    return [value for value in no_kinds(2) if value != "a"] + [0, 1, "A", "a b", "abcdefghi", "a1", "a_", "\n"] \
        + list(KEYWORDS) + [["a"], ("a",)]


def drawn(seed, many):
    """Yield (draw, plant) again and again, each number of kinds from 1 to 8 among them."""
    draw = chance(seed)
    for count in range(many):
        yield draw, draw_plant(draw, count % 8 + 1)


class Examples(unittest.TestCase):

    def test_as_they_stand_in_the_document(self):
        check(self, EXAMPLES)


class PlantError(unittest.TestCase):

    def check(self, wanted, value):
        check_returns(self, wanted, plant_error, value=value)

    def test_drawn_plants(self):
        for _, plant in drawn(411, 160):
            self.check(None, plant)

    def test_small_plants(self):
        for n in range(1, 9):
            kinds = tuple("abcdefgh"[:n])
            self.check(None, (kinds, (), ()))
            self.check(None, (kinds, (("x", full_book(n)),), ()))
            self.check(None, (kinds, (("x", full_book(n)),), (("y", ()), ("z", (full_book(n),) * 6))))

    def test_forms(self):
        names = tuple("abcdefghi")
        for value in no_tuples() + [
            (), (("a",),), (("a",), ()), (("a",), (), (), ()), (["a"], (), ()), (("a",), [], ()), (("a",), (), []),
            ("a", (), ()), (("a",), "", ()), (("a",), (), None), ((), (), ()), (names, (), ()), (None, (), ()),
            ((), (("x", ()),), ()), (names, (("a", 5),), (7,)), ({"a": 1}, (), ()), (("a",) * 4000, (), ()),
        ]:
            self.check("form", value)

    def test_kinds(self):
        for name in no_names():
            self.check(("kind", 0), ((name,), (), ()))
            self.check(("kind", 2), (("a", "b", name, "a"), (5,), (5,)))
        self.check(("kind", 1), (("a", "a", "a"), (), ()))
        self.check(("kind", 7), (tuple("abcdefgb"), (), ()))

    def test_books(self):
        for name in no_names():
            self.check(("book", 0), (("x", "y"), ((name, ()),), ()))
        for book in [value for value in no_tuples() + [((0, 2),), ((1, 1),), ((0, True),), ((0, 1), (0, 1)), (5,)]]:
            self.check(("book", 1), (("x", "y"), (("a", ()), ("b", book), ("b", ())), (7,)))
        for item in no_kinds(2) + [("b",), ("b", (), ()), ["b", ()], "b", {"b": ()}, (("b", ()),), nested(8)]:
            self.check(("book", 1), (("x", "y"), (("a", ()), item), ()))
        for name in ("x", "y", "a"):
            self.check(("book", 1), (("x", "y"), (("a", ()), (name, ())), ()))
        # n is how many kinds there are.
        self.check(("book", 0), (("x",), (("a", ((0, 1),)),), ()))
        self.check(None, (("x", "y"), (("a", ((0, 1),)),), ()))

    def test_lines(self):
        kinds, books = ("x", "y"), (("a", ((0, 1),)), ("b", ()))
        for name in no_names():
            self.check(("line", 0), (kinds, books, ((name, ()),)))
        for line in [((1, 0),), (((1, 0),),), ((),) * 7, [()], None, (((0, 1),), 5), (((0, 2),),), ({},), "", 0, True]:
            self.check(("line", 1), (kinds, books, (("c", ()), ("d", line), 9)))
        for item in no_kinds(2) + [("d",), ("d", (), ()), ["d", ()], (("d", ()),), nested(8)]:
            self.check(("line", 1), (kinds, books, (("c", ()), item)))
        for name in ("x", "y", "a", "b", "c"):
            self.check(("line", 1), (kinds, books, (("c", ()), (name, ()))))
        self.check(None, (kinds, books, (("c", ((),) * 6), ("d", (((0, 1),), ())))))

    def test_bays_are_among_the_books(self):
        kinds = ("x", "y")
        self.check(("line", 0), (kinds, (("a", ()),), (("c", (((0, 1),),)),)))
        self.check(("line", 1), (kinds, (("a", ((0, 1),)),), (("c", (((0, 1),),)), ("d", ((),)))))
        self.check(None, (kinds, (("a", ((0, 1),)), ("b", ((0, 1),))), (("c", (((0, 1),),) * 2),)))

    def test_no_line_without_a_book(self):
        for line in ((), ((),), (((0, 1),),)):
            self.check(("line", 0), (("x", "y"), (), (("c", line),)))

    def test_forty_names_and_one_more(self):
        draw = chance(412)
        for n, books in ((1, 39), (8, 32), (8, 1), (3, 20), (1, 1)):
            self.check(None, draw_plant(draw, n, books, 40 - n - books))
            self.check("many", draw_plant(draw, n, books, 41 - n - books))
        self.check("many", draw_plant(draw, 8, 33, 0))
        self.check("many", draw_plant(draw, 8, 100, 100))

    def test_many_stands_behind_all_else(self):
        draw = chance(413)
        kinds, books, lines = draw_plant(draw, 8, 20, 20)
        self.check("many", (kinds, books, lines))
        self.check(("line", 20), (kinds, books, lines + ((kinds[0], ()),)))
        self.check(("book", 20), (kinds, books + (books[0],), lines))

    def test_the_first_fault_is_told(self):
        kinds, books = ("x", "y"), (("a", ((0, 1),)),)
        self.check(("kind", 1), (("x", "x"), (("x", 5),), (("x", 5),)))
        self.check(("book", 0), (kinds, (("x", ()), 5), (("x", 5),)))
        self.check(("line", 0), (kinds, books, (("a", 5), 5)))
        self.check("form", (("x", "x"), 5, ()))

    def test_drawn_plants_with_a_part_changed(self):
        for draw, (kinds, books, lines) in drawn(414, 160):
            place = draw.randrange(len(kinds))
            self.check(("kind", place), (kinds[:place] + ("Kind",) + kinds[place + 1:], books, lines))
            if books:
                place = draw.randrange(len(books))
                taken = draw.choice(kinds + tuple([name for name, _ in books[:place]]))
                spoilt = books[:place] + ((taken, books[place][1]),) + books[place + 1:]
                self.check(("book", place), (kinds, spoilt, lines))
            if lines:
                place = draw.randrange(len(lines))
                taken = draw.choice(kinds + tuple([name for name, _ in books + lines[:place]]))
                spoilt = lines[:place] + ((taken, lines[place][1]),) + lines[place + 1:]
                self.check(("line", place), (kinds, books, spoilt))


class BookInLineIn(unittest.TestCase):

    def test_drawn_plants(self):
        for draw, plant in drawn(415, 80):
            kinds, books, lines = plant
            for name, book in books:
                check_returns(self, book, book_in, plant=plant, name=name)
                check_error(self, NoName(name), line_in, plant=plant, name=name)
            for name, line in lines:
                check_returns(self, line, line_in, plant=plant, name=name)
                check_error(self, NoName(name), book_in, plant=plant, name=name)
            for name in kinds:
                check_error(self, NoName(name), line_in, plant=plant, name=name)
                check_error(self, NoName(name), book_in, plant=plant, name=name)

    def test_any_string(self):
        for name in ("", "up ", "UP", "of", "x" * 20000, "a\nb", "ma", "mainx", "0"):
            check_error(self, NoName(name), book_in, plant=SMALL, name=name)
            check_error(self, NoName(name), line_in, plant=SMALL, name=name)

    def test_forty_names(self):
        plant = draw_plant(chance(416), 1, 20, 19)
        for name, book in plant[1]:
            self.assertEqual(book_in(plant, name), book)
        for name, line in plant[2]:
            self.assertEqual(line_in(plant, name), line)


if __name__ == "__main__":
    unittest.main()
