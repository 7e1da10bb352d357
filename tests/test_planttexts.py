"""[A3], [L4], [L5] and [L6] of the document: texts of plants."""

import collections
import unittest

from baylines import errors
from baylines.errors import BadBook, BadText, NoName, Taken, TooMany
from baylines.plants import plant_error
from baylines.planttexts import plant_text, read_plant
from tests.drawn import chance, full_book
from tests.examples import check
from tests.plantings import draw_plant, draw_text, spoilt, spread, told_reading
from tests.values import check_error, check_returns, no_strings

EXAMPLES = r"""
    >>> small = (("red", "tan"), (("up", ((0, 1),)), ("idle", ())), (("main", (((0, 1),), ())), ("off", ())))
    >>> from baylines.plants import book_in, line_in
    >>> from baylines.planttexts import plant_text, read_plant
    >>> plant_text(small)
    'kinds red tan;\nbook up = pairs red > tan;\nbook idle = none;\nline main = up idle;\nline off = 0 * up;'
    >>> told = "kinds red tan sky; book up = full; book few = only red of up; book odd = pairs sky > tan;\nbook by = ranks 2 1 2; book both = common up few; line main = up 2 * (few odd); line less = 0 * up main;"
    >>> plant = read_plant(told)
    >>> plant[1]
    (('up', ((0, 1), (0, 2), (1, 2))), ('few', ((0, 1), (0, 2))), ('odd', ((2, 1),)), ('by', ((1, 0), (1, 2))), ('both', ((0, 1), (0, 2))))
    >>> plant[0], line_in(plant, "main") == tuple([book_in(plant, name) for name in ("up", "few", "odd", "both", "odd")]), line_in(plant, "less") == line_in(plant, "main"), read_plant(plant_text(plant)) == plant
    (('red', 'tan', 'sky'), True, True, True)
    >>> read_plant("kinds a b; book a = full;")
    raises Taken('a')
    >>> read_plant("kinds a b; line l = up;")
    raises NoName('up')
    >>> read_plant("kinds a b; book x = pairs a > b b > a;")
    raises BadBook(('whom', 0, 1, 0))
    >>> read_plant("kinds a b; book x = full; line l = x 0 * (6 * x x) x;")
    raises TooMany(6)
    >>> read_plant("kinds a b; book x = ranks 1;")
    raises BadText(27)
    >>> read_plant("kinds a b")
    raises BadText(9)
    >>> read_plant("kinds a; book x = none; line l = (x;")
    raises BadText(35)
    >>> read_plant("kinds A;")
    raises BadText(6)
"""

# Two kinds and two books, for what is told behind them.
HEAD = "kinds a b; book x = full; book y = none; "
FULL = ((0, 1),)


def told_text(plant):
    """What plant_text has to return."""
    kinds, books, lines = plant
    told = " ".join(["kinds"] + list(kinds)) + ";"
    for name, book in books:
        pairs = [f"{kinds[x]} > {kinds[h]}" for x, h in book]
        told += "\nbook " + " ".join([name, "="] + (["pairs"] + pairs if pairs else ["none"])) + ";"
    for name, line in lines:
        bays = [[other for other, book in books if book == bay][0] for bay in line]
        told += "\nline " + " ".join([name, "="] + (bays or ["0", "*", books[0][0]])) + ";"
    return told


class Examples(unittest.TestCase):

    def test_as_they_stand_in_the_document(self):
        check(self, EXAMPLES)


class PlantText(unittest.TestCase):

    def check(self, plant):
        text = told_text(plant)
        check_returns(self, text, plant_text, plant=plant)
        check_returns(self, plant, read_plant, value=text)

    def test_drawn_plants(self):
        draw = chance(421)
        for count in range(200):
            self.check(draw_plant(draw, count % 8 + 1))

    def test_no_book_and_no_line(self):
        for n in range(1, 9):
            self.check((tuple("abcdefgh"[:n]), (), ()))
            self.check((tuple("abcdefgh"[:n]), (("x", full_book(n)),), ()))
            self.check((tuple("abcdefgh"[:n]), (("x", full_book(n)),), (("y", ()),)))

    def test_forty_names(self):
        draw = chance(422)
        for n, books in ((1, 39), (8, 32), (8, 1), (3, 20)):
            self.check(draw_plant(draw, n, books, 40 - n - books))

    def test_the_first_name_of_a_book(self):
        self.check((("a", "b"), (("x", ()), ("y", FULL), ("z", FULL), ("w", ())), (("l", (FULL, (), FULL)), ("m", ()))))

    def test_the_longest_text(self):
        names = ["n" * 7 + letter for letter in "abcdefghijklmnopqrstuvwxyz"] + ["m" * 7 + letter for letter in "abcdef"]
        kinds = tuple(["k" * 7 + letter for letter in "abcdefgh"])
        plant = (kinds, tuple([(name, full_book(8)) for name in names]), ())
        self.check(plant)
        self.check((kinds, plant[1][:20], tuple([(name, (full_book(8),) * 6) for name in names[20:]])))


class ReadPlant(unittest.TestCase):

    def check(self, text):
        """Check read_plant of a text by a plain reading of it; return the name of the error, "plant" for none."""
        told = told_reading(text)
        if told[0] == "plant":
            check_returns(self, told[1], read_plant, value=text)
        else:
            check_error(self, getattr(errors, told[0])(told[1]), read_plant, value=text)
        return told[0]

    def raises(self, error, text):
        check_error(self, error, read_plant, value=text)
        self.assertEqual(told_reading(text), (type(error).__name__, list(vars(error).values())[0]), text)

    def bad(self, text):
        """Check that a text, in which "@" marks a place, raises BadText of this place."""
        place = text.index("@")
        self.raises(BadText(place), text.replace("@", ""))

    def reads(self, line, told):
        """Check what the bays of a line are that is told behind the two books x and y."""
        wanted = (("a", "b"), (("x", FULL), ("y", ())), (("l", line),))
        check_returns(self, wanted, read_plant, value=HEAD + "line l = " + told + ";")

    def test_drawn_texts(self):
        draw = chance(423)
        found = collections.Counter()
        for count in range(400):
            found[self.check(draw_text(draw, count % 8 + 1))] += 1
        self.assertGreater(found["plant"], 150, found)

    def test_drawn_texts_with_other_blanks(self):
        draw = chance(424)
        for count in range(200):
            text = draw_text(draw, count % 8 + 1)
            told = told_reading(text)
            if told[0] == "plant":
                check_returns(self, told[1], read_plant, value=spread(draw, text))
                check_returns(self, told[1], read_plant, value=spread(draw, plant_text(told[1])))

    def test_drawn_texts_that_are_spoilt(self):
        draw = chance(425)
        found = collections.Counter()
        for count in range(3000):
            text = draw_text(draw, draw.choice((1, 2, 3, 4, 8)))
            found[self.check(spoilt(draw, text))] += 1
        self.assertEqual(set(found), {"plant", "BadText", "Taken", "NoName", "BadBook", "TooMany"})

    def test_no_strings(self):
        for value in no_strings():
            check_error(self, BadText(0), read_plant, value=value)

    def test_each_text_cut_off(self):
        text = "kinds a b;\nbook x = pairs a > b;\nbook y = ranks 1 0;\nbook z = only a b of x;\n" \
            "book w = common x y;\nbook v = w;\nline l = 2 * (x y) 1 * z;\nline m = l w;\n"
        for many in range(len(text) + 1):
            self.check(text[:many])
        for place in range(len(text)):
            for sign in ";=>()*a5 _":
                self.check(text[:place] + sign + text[place:])
                self.check(text[:place] + sign + text[place + 1:])

    def test_an_end_too_early(self):
        for text in (
            "", "  \n", "kinds", "kinds ", "kinds a", "kinds a b \n ", "kinds a; book", "kinds a; book x",
            "kinds a; book x =", "kinds a; book x = pairs", "kinds a; book x = pairs a", "kinds a; book x = pairs a >",
            "kinds a; book x = ranks", "kinds a; book x = ranks 1", "kinds a; book x = only",
            "kinds a; book x = only a", "kinds a; book x = none", HEAD + "book z = only a of", HEAD + "book z = common",
            HEAD + "book z = common x", HEAD + "book z = x", HEAD + "line", HEAD + "line l", HEAD + "line l =",
            HEAD + "line l = x", HEAD + "line l = (", HEAD + "line l = (x", HEAD + "line l = (x)", HEAD + "line l = 2",
            HEAD + "line l = 2 *", HEAD + "line l = 2 * x", HEAD + "line l = x\n",
        ):
            self.raises(BadText(len(text)), text)

    def test_what_ends_well(self):
        for text in ("kinds a;", " kinds a ; ", "kinds\na\n;\n\n", HEAD, HEAD + "line l = x ;\n", "kinds a;book x=none;"):
            self.assertEqual(self.check(text), "plant")

    def test_what_cannot_stand_there(self):
        for text in (
            "@kind a;", "@a b;", "@; kinds a;", "@book x = none;", "kinds @;", "kinds @5;", "kinds a@= b;", "kinds a @7;",
            "kinds @kinds;", "kinds a @of;", "kinds a; @kinds b;", "kinds a; @;", "kinds a; @x = none;", "kinds a; @a;",
            "kinds a; book @= none;", "kinds a; book @book = none;", "kinds a; book x @none;", "kinds a; book x = @;",
            "kinds a; book x = @5;", "kinds a; book x = @book;", "kinds a; book x = @line;", "kinds a; book x = @of;",
            "kinds a; book x = none @none;", "kinds a; book x = full @a;", "kinds a; book x = none @book y = none;",
            HEAD + "@(x);", HEAD + "line l @x;", HEAD + "line l = @;", HEAD + "line l = @full;", HEAD + "line l = @> x;",
            HEAD + "line l = x @= y;", HEAD + "line l = x @);", HEAD + "line l = (x@;", HEAD + "line l = (@);",
            HEAD + "line l = @* x;", HEAD + "line l = 2 @x;", HEAD + "line l = 2 @(x);", HEAD + "line l = 2 @2 * x;",
            HEAD + "line l = 2 * @;", HEAD + "line l = 2 * @* x;", HEAD + "line l = (2 * @) x;", HEAD + "line l = x @none;",
            HEAD + "line l = x; @book z = none;", HEAD + "line l = x; @x;", HEAD + "line l = x;@;",
            HEAD + "book z = x @y;", HEAD + "book z = pairs @> a;", HEAD + "book z = pairs a @b;",
            HEAD + "book z = pairs a > @> b;", HEAD + "book z = pairs a > @;", HEAD + "book z = pairs a > b @> a;",
            HEAD + "book z = pairs @none;", HEAD + "book z = pairs a > @1;", HEAD + "book z = only @of x;",
            HEAD + "book z = only @;", HEAD + "book z = only a @;", HEAD + "book z = only a of @;",
            HEAD + "book z = only a of x @y;", HEAD + "book z = only a @none of x;", HEAD + "book z = common @;",
            HEAD + "book z = common x @;", HEAD + "book z = common x y @x;", HEAD + "book z = common @of x;",
        ):
            self.bad(text)

    def test_tokens_that_are_none(self):
        for text in (
            "@Kinds a;", "kinds a@_;", "kinds @abcdefghi;", "kinds a; @007;", HEAD + "line l = @1000 * x;",
            HEAD + "line l = x@_;", HEAD + "book z = ranks 1 @01;", "kinds a; book x = none; @!", "@-kinds a;",
        ):
            self.bad(text)

    def test_a_ninth_kind(self):
        self.bad("kinds a b c d e f g h @i;")
        self.bad("kinds a b c d e f g h @a;")
        self.bad("kinds a b c d e f g h @of;")
        self.assertEqual(self.check("kinds a b c d e f g h;"), "plant")
        self.raises(Taken("a"), "kinds a b c d e f g a i;")

    def test_ranks(self):
        self.bad("kinds a b; book x = ranks 1@;")
        self.bad("kinds a b; book x = ranks 1 2 @3;")
        self.bad("kinds a b; book x = ranks 1 @a;")
        self.bad("kinds a b; book x = ranks @;")
        for ranks, book in (("1 2", FULL), ("2 1", ((1, 0),)), ("0 0", ()), ("0 999", FULL), ("999 998", ((1, 0),))):
            wanted = (("a", "b"), (("x", book),), ())
            check_returns(self, wanted, read_plant, value=f"kinds a b; book x = ranks {ranks};")

    def test_books(self):
        for told, book in (
            ("none", ()), ("full", FULL), ("x", FULL), ("y", ()), ("pairs", ()), ("pairs b > a", ((1, 0),)),
            ("pairs a>b a > b", FULL), ("only a of x", FULL), ("only b of x", ()), ("only b a a b of x", FULL),
            ("common x x", FULL), ("common x y", ()), ("common y x", ()), ("only a of y", ()),
        ):
            wanted = (("a", "b"), (("x", FULL), ("y", ()), ("z", book)), ())
            check_returns(self, wanted, read_plant, value=HEAD + f"book z = {told};")

    def test_pairs_in_any_order(self):
        text = "kinds a b c; book x = pairs b > c a > c a > b b > c;"
        check_returns(self, (("a", "b", "c"), (("x", full_book(3)),), ()), read_plant, value=text)

    def test_names_that_are_taken(self):
        self.raises(Taken("a"), "kinds a a;")
        self.raises(Taken("a"), HEAD + "book a = none;")
        self.raises(Taken("x"), HEAD + "book x = none;")
        self.raises(Taken("b"), HEAD + "line b = x;")
        self.raises(Taken("y"), HEAD + "line y = x;")
        self.raises(Taken("l"), HEAD + "line l = x; line l = x;")

    def test_names_that_nothing_has(self):
        for told, name in (
            ("book z = w;", "w"), ("book z = z;", "z"), ("book z = a;", "a"), ("book z = pairs c > a;", "c"),
            ("book z = pairs a > x;", "x"), ("book z = only z of x;", "z"), ("book z = only a x of x;", "x"),
            ("book z = only a of z;", "z"), ("book z = only a of a;", "a"), ("book z = common x z;", "z"),
            ("book z = common b x;", "b"), ("line l = z;", "z"), ("line l = a;", "a"), ("line l = l;", "l"),
            ("line l = x (y 2 * w);", "w"), ("line l = x; line m = l m;", "m"),
        ):
            self.raises(NoName(name), HEAD + told)
        # Books cannot be told of lines, as they stand ahead of them all.
        self.bad(HEAD + "line l = x; @book z = l;")

    def test_pairs_that_are_no_book(self):
        self.raises(BadBook(("self", 1)), HEAD + "book z = pairs b > b;")
        self.raises(BadBook(("self", 0)), HEAD + "book z = pairs b > b a > a a > b b > a;")
        self.raises(BadBook(("whom", 0, 1, 0)), HEAD + "book z = pairs b > a a > b;")
        self.raises(BadBook(("whom", 0, 1, 2)), "kinds a b c; book z = pairs b > c a > b;")
        # It is found when the sign at the end has been read.
        self.bad(HEAD + "book z = pairs b > b @_")
        self.bad(HEAD + "book z = pairs b > b  @")
        self.raises(NoName("z"), HEAD + "book z = pairs b > b z")

    def test_lines(self):
        x, y = FULL, ()
        for told, line in (
            ("x", (x,)), ("x y x", (x, y, x)), ("x y x y x y", (x, y) * 3), ("(x)", (x,)), ("((x y))", (x, y)),
            ("3 * (x y)", (x, y) * 3), ("2*3*x", (x,) * 6), ("0 * x", ()), ("999 * 0 * x", ()), ("0 * (x y) y", (y,)),
            ("1 * x y", (x, y)), ("2 * (x) y", (x, x, y)), ("2 * (x 2 * y)", (x, y, y) * 2), ("0*6*x 6*y", (y,) * 6),
            ("(x y) (y x)", (x, y, y, x)), ("2 * 0 * (6 * x)", ()), ("6 * x 0 * x 0 * (y)", (x,) * 6),
        ):
            self.reads(line, told)

    def test_lines_of_lines(self):
        text = HEAD + "line l = x y; line m = 2 * l 0 * l (l); line o = m; line p = 0 * m;"
        told = read_plant(text)[2]
        self.assertEqual(told, (("l", (FULL, ())), ("m", (FULL, ()) * 3), ("o", (FULL, ()) * 3), ("p", ())))
        self.raises(TooMany(6), text + "line q = m 0 * x x;")
        self.raises(TooMany(6), text + "line q = 0 * (m x);")
        self.raises(TooMany(6), text + "line q = 2 * m;")

    def test_too_many_bays(self):
        for told in (
            "x x x x x x x", "7 * x", "999 * x", "2 * (x x x x)", "x 6 * x", "6 * x x", "0 * 7 * x", "0 * (6 * x x)",
            "0 * (0 * (x x x x x x x))", "(x x x) (x x x x)", "(x x x x x x) x", "3 * (x x x)", "2 * 2 * 2 * x",
            "x (x x x x x x)", "(6 * x) (0 * x) x",
        ):
            self.raises(TooMany(6), HEAD + f"line l = {told};")

    def test_too_many_bays_are_found_when_the_part_has_been_read(self):
        head = HEAD + "line l = "
        # A part behind a number counts beside others only with the number.
        self.reads((FULL,) * 6, "x x x x x 0 * (x x x) x")
        self.raises(TooMany(6), head + "x x x x x x x _")
        self.bad(head + "x x x x x x @_ x")
        # The bracket is a part that has not been read yet.
        self.bad(head + "6 * x (x x x x @_")
        self.raises(NoName("z"), head + "6 * x (x x x x z)")
        self.raises(TooMany(6), head + "6 * x (x x x x) z")
        self.bad(head + "6 * x 7 * (x y@")
        self.raises(NoName("z"), head + "7 * z")
        self.raises(TooMany(6), head + "7 * x z")
        self.raises(TooMany(6), head + "2 * (x x x x) z")
        self.raises(TooMany(6), head + "(7 * x")

    def test_twelve_levels_and_thirteen(self):
        head = HEAD + "line l = "
        self.reads((FULL,), "(" * 12 + "x" + ")" * 12)
        self.reads((FULL,), "1 * " * 12 + "x")
        self.reads((FULL,), "1 * (" * 6 + "x" + ")" * 6)
        self.reads((FULL,) * 6, "2 * (3 * (" + "(" * 8 + "x" + ")" * 10)
        self.bad(head + "(" * 12 + "@(x" + ")" * 13 + ";")
        self.bad(head + "1 * " * 12 + "1 @* x;")
        self.bad(head + "1 * (" * 6 + "1 @* x" + ")" * 6 + ";")
        self.bad(head + "1 * (" * 6 + "@(x)" + ")" * 6 + ";")
        self.bad(head + "(" * 11 + "1 * @(x)" + ")" * 11 + ";")
        # What has been closed, or read, is one level less.
        self.bad(head + "(" * 11 + "(x) (@(x" + ")" * 13 + ";")
        self.bad(head + "(" * 11 + "1 * x (1 @* x" + ")" * 12 + ";")
        self.bad(head + "(" * 11 + "1 * x 1 * @(x)" + ")" * 11 + ";")
        self.bad(head + "(" * 10 + "(1 * x) (x) ((@(x" + ")" * 13 + ";")
        self.bad(head + "1 * (" * 5 + "1 * (x) 1 * (@(x" + ")" * 12 + ";")
        self.reads((FULL,) * 2, "(" * 12 + "x" + ")" * 12 + "(" * 12 + "x" + ")" * 12)
        self.reads((FULL,) * 3, "(" * 11 + "1 * x 1 * x (x)" + ")" * 11)
        self.reads((FULL,) * 3, "1 * " * 12 + "x " + "(" * 12 + "x" + ")" * 12 + " 1 * (x)")

    def test_forty_names_and_one_more(self):
        names = [one + other for one in "abcd" for other in "abcdefghij"]
        text = "kinds " + " ".join(names[:8]) + ";" + "".join([f" book {name} = none;" for name in names[8:]])
        self.assertEqual(self.check(text), "plant")
        self.raises(TooMany(40), text + " book zz = none;")
        self.raises(TooMany(40), text + " line zz = aj;")
        self.raises(TooMany(40), text + " line zz")
        self.raises(Taken("aa"), text + " line aa = aj;")
        self.bad(text + " line @none = aj;")
        self.bad(text + " line @5 = aj;")

    def test_two_faults_in_one_text(self):
        for told, error in (
            ("kinds a a _", Taken("a")), ("kinds a _ a", BadText(8)), ("kinds a; book a = zz;", Taken("a")),
            ("kinds a; book x = zz; book x", NoName("zz")), ("kinds a; book x = pairs a > a; book x", BadBook(("self", 0))),
            ("kinds a; book x = pairs b > a a", NoName("b")), ("kinds a; book x = none; line x = zz;", Taken("x")),
            (HEAD + "line l = 7 * x zz;", TooMany(6)), (HEAD + "line l = zz 7 * x;", NoName("zz")),
            (HEAD + "line l = x; line l = zz;", Taken("l")), (HEAD + "book z = only zz of yy;", NoName("zz")),
            (HEAD + "book z = common zz yy;", NoName("zz")), (HEAD + "line l = (7 * x;", TooMany(6)),
        ):
            self.raises(error, told)


class WhatHolds(unittest.TestCase):

    def test_what_is_read_is_a_plant(self):
        draw = chance(426)
        for count in range(300):
            text = draw_text(draw, count % 8 + 1)
            if told_reading(text)[0] == "plant":
                plant = read_plant(text)
                self.assertIsNone(plant_error(plant))
                self.assertEqual(read_plant(plant_text(plant)), plant)
                self.assertTrue(all(len(line) <= 6 for _, line in plant[2]))

    def test_plants_are_read_back(self):
        draw = chance(427)
        for count in range(200):
            plant = draw_plant(draw, count % 8 + 1)
            self.assertEqual(repr(read_plant(plant_text(plant))), repr(plant))
            self.assertEqual(repr(read_plant(spread(draw, plant_text(plant)))), repr(plant))


if __name__ == "__main__":
    unittest.main()
