"""[A3] and [N1] to [N3] of the document: shells."""

import copy
import re
import unittest

from baylines.desks import Desk
from baylines.errors import BayError, Unfit
from baylines.shells import Shell
from tests.bays import none_first
from tests.drawn import chance, full_book
from tests.examples import check
from tests.plaindesk import PlainDesk, Refused, book_fault, draw_books, draw_edit
from tests.values import nested, no_kinds, no_strings, no_tuples

EXAMPLES = r"""
    >>> from baylines.shells import Shell
    >>> s = Shell()
    >>> s.script(("line", "put 0 a>b a>c", "put 1", "put 2", "come cba", "line"))
    ('no bay', 'out -', 'out -', 'out -', 'out -', '0 a>b a>c b\n1 - a\n2 - c')
    >>> s.script(("may", "change 0", "change 1", "line", "come c", "rest", "outs", "tickets"))
    ('0', 'out -', 'out -', '0 - a\n1 - b\n2 a>b a>c c', 'out c', 'abc', 'c', '0')
    >>> s.script(("take 2", "put 1", "end", "outs", "tickets", "may", "log"))
    ('out b', 'error Unfit', 'out ac', 'cbac', '0 1 2 3', '-', 'put put put come come come change change come take end')
    >>> s.script(("undo", "rest", "put 2 b>c", "line"))
    ('out -', 'ac', 'out -', '0 - c\n1 - a\n2 b>c .')
    >>> s.script(("new 2", "put 0 a>c", "put 0 a>b b>a", "put 0 a>b", "come d", "come ", "come", "put 00", "end now", 7, "change 0", "undo", "undo"))
    ('new', 'error BadText', 'error BadBook', 'out -', 'error BadText', 'what', 'what', 'what', 'what', 'what', 'error Unfit', 'out -', 'error NothingToUndo')
    >>> s.script(["line"])
    raises Unfit()
"""

LETTERS = "abcdefgh"
NUMBER = "(0|[1-9][0-9]{0,8})"
ASKED = ("line", "outs", "rest", "tickets", "may", "log")


class Unread(Exception):
    """A text of a row or of a book that cannot be read: the name of the error."""


def row_of(n, text):
    if len(text) > 60 or set(text) - set(LETTERS[:n]):
        raise Unread("BadText")
    return [LETTERS.index(sign) for sign in text]


def book_of(n, text):
    pair = f"[{LETTERS[:n]}]>[{LETTERS[:n]}]"
    if not re.fullmatch(f"{pair}( {pair})*", text):
        raise Unread("BadText")
    book = tuple([(LETTERS.index(x), LETTERS.index(h)) for x, h in re.findall("(.)>(.)", text)])
    if book_fault(n, book) is not None:
        raise Unread("BadBook")
    return book


def text_of(book):
    return " ".join([LETTERS[x] + ">" + LETTERS[h] for x, h in book]) or "-"


def kinds_of(pairs):
    return "".join([LETTERS[kind] for _, kind in pairs]) or "-"


class PlainShell:
    """A shell as the document's words tell it, with a plain desk."""

    def __init__(self):
        self.desk = PlainDesk(3)

    def say(self, line):
        try:
            return self.answer(line) or "what"
        except (Refused, Unread) as error:
            return "error " + error.args[0]

    def answer(self, line):
        if not isinstance(line, str):
            return None
        if line in ASKED:
            return self.asked(line) or "-"
        if line == "undo":
            self.desk.undo()
            return "out -"
        if line == "end":
            return "out " + kinds_of(self.desk.do("end"))
        told = re.fullmatch(f"(take|change) {NUMBER}", line)
        if told:
            return "out " + kinds_of(self.desk.do(told.group(1), int(told.group(2))))
        told = re.fullmatch("new ([1-8])", line)
        if told:
            self.desk = PlainDesk(int(told.group(1)))
            return "new"
        told = re.fullmatch(f"put {NUMBER}( (.+))?", line, re.DOTALL)
        if told:
            book = book_of(self.desk.n, told.group(3)) if told.group(2) else ()
            return "out " + kinds_of(self.desk.do("put", int(told.group(1)), book))
        told = re.fullmatch("come (.+)", line, re.DOTALL)
        if told:
            out = []
            for kind in row_of(self.desk.n, told.group(1)):
                out += self.desk.do("come", kind)
            return "out " + kinds_of(out)
        return None

    def asked(self, word):
        desk = self.desk
        if word == "line":
            held = zip(desk.line, sorted(desk.ways, key=none_first)[0])
            bays = [f"{text_of(book)} {'.' if kind is None else LETTERS[kind]}" for book, kind in held]
            return "\n".join([f"{place} {bay}" for place, bay in enumerate(bays)]) or "no bay"
        return {
            "outs": kinds_of(desk.outs), "rest": kinds_of(desk.rest()),
            "tickets": " ".join([str(ticket) for ticket, _ in desk.outs]),
            "may": " ".join([str(place) for place in desk.may()]), "log": " ".join([edit[0] for edit in desk.log]),
        }[word]


def said(lines):
    """Return a shell to which lines were said."""
    shell = Shell()
    shell.script(tuple(lines))
    return shell


def draw_line(draw, desk, books):
    """Return a line that may be said to a shell with this plain desk, some of them wrong ones."""
    if draw.random() < 0.3:
        return draw.choice(ASKED)
    if draw.random() < 0.1:
        return draw.choice(("undo", "come " + "".join([draw.choice(LETTERS) for _ in range(3)]), "new 3", "end", "put 9"))
    edit = draw_edit(draw, desk, books)
    if edit[0] == "put":
        book = text_of(edit[2])
        return f"put {edit[1]}" + ("" if book == "-" else " " + book)
    if edit[0] == "come":
        return "come " + "".join([draw.choice(LETTERS[:desk.n]) for _ in range(draw.choice((1, 1, 2, 4)))])
    return " ".join([str(part) for part in edit])


def spoilt(draw, line):
    """Return a line with a blank, a nought or a sign too many, or one too few."""
    place = draw.randint(0, len(line))
    way = draw.randrange(6)
    if way < 4:
        return line[:place] + (" ", "0", "\n", "-")[way] + line[place:]
    return line[:place] + line[place + 1:] if way == 4 else line.upper()


class Examples(unittest.TestCase):

    def test_as_they_stand_in_the_document(self):
        check(self, EXAMPLES)


class Lines(unittest.TestCase):

    def check(self, before, line, wanted):
        """Check what is said by place, by name and by script, behind the lines before."""
        self.assertEqual(said(before).say(line), wanted, (before, line))
        self.assertEqual(said(before).say(line=line), wanted)
        self.assertEqual(said(before).script((line,)), (wanted,))
        self.assertEqual(said(before).script(value=(line, line))[0], wanted)

    def check_what(self, line):
        """Check that a line is none, and that it changes nothing."""
        before = ("put 0 a>b a>c", "put 1", "come cb", "undo")
        shell = said(before)
        self.check(before, line, "what")
        shell.say(line)
        self.assertEqual(shell.script(ASKED), said(before).script(ASKED), line)

    def test_a_new_shell(self):
        self.check((), "line", "no bay")
        for line in ("outs", "rest", "tickets", "may", "log"):
            self.check((), line, "-")
        self.check((), "come abc", "out abc")
        self.check((), "come abcd", "error BadText")
        self.check((), "undo", "error NothingToUndo")
        self.check((), "end", "out -")

    def test_new(self):
        for n in range(1, 9):
            self.check(("put 0", "come a"), f"new {n}", "new")
            before = ("put 0", "come a", f"new {n}")
            self.check(before, "line", "no bay")
            self.check(before, "log", "-")
            self.check(before, "come " + LETTERS[:n], "out " + LETTERS[:n])
            if n < 8:
                self.check(before, "come " + LETTERS[n], "error BadText")
        for number in ("0", "9", "10", "08", "01", "-1", "+1", "", " 1", "1 ", "a", "1 1", "1\n", "1.0", "999999999"):
            self.check_what("new " + number)
        for line in ("new", "new  1", " new 1", "New 1", "new\n1", "new1"):
            self.check_what(line)

    def test_put(self):
        self.check((), "put 0", "out -")
        self.check((), "put 0 a>b", "out -")
        self.check(("put 0 a>b",), "line", "0 a>b .")
        self.check(("put 0 a>b", "put 0"), "line", "0 - .\n1 a>b .")
        self.check(("put 0 a>b", "put 1 a>b a>c b>c"), "line", "0 a>b .\n1 a>b a>c b>c .")
        for line, told in (
            ("put 1", "Unfit"), ("put 1 a>b", "Unfit"), ("put 999999999", "Unfit"), ("put 0 a>d", "BadText"),
            ("put 0 a>b ", "BadText"), ("put 0  a>b", "BadText"), ("put 0  ", "BadText"), ("put 0 -", "BadText"),
            ("put 0 a", "BadText"), ("put 0 a>b b>a", "BadBook"), ("put 0 a>a", "BadBook"), ("put 0 b>c a>b", "BadBook"),
            ("put 0 \n", "BadText"), ("put 0 0", "BadText"), ("put 0 A>b", "BadText"),
        ):
            self.check((), line, "error " + told)
        self.check(("put 0",) * 6, "put 0", "error TooMany")
        self.check(("put 0", "come a"), "put 0", "error Unfit")
        for line in ("put", "put ", "put 0 ", "put 00", "put 01 a>b", "put a", "put -1", "put  0", "put\n0", "put 0\n",
                     "put a>b", "put 1000000000", "put 0a", " put 0", "puts 0", "PUT 0"):
            self.check_what(line)

    def test_texts_are_read_ahead_of_what_the_desk_does(self):
        self.check((), "put 5 a>d", "error BadText")
        self.check((), "put 5 a>a", "error BadBook")
        self.check((), "put 5 a>b", "error Unfit")
        self.check(("put 0",) * 6, "put 0 a>z", "error BadText")
        sixty = ("end",) * 60
        self.check(sixty, "put 0 a>z", "error BadText")
        self.check(sixty, "put 0", "error TooManyEdits")
        self.check(sixty, "come z", "error BadText")
        self.check(sixty, "come a", "error TooManyEdits")

    def test_take_and_change(self):
        before = ("put 0 a>b", "put 1", "put 2", "come cba")
        for word in ("take", "change"):
            for number in ("", " 1", "1 ", "01", "00", "-1", "+1", "a", "0 0", "1000000000", "0\n", "\n0", "1.", "a>b"):
                self.check_what(word + " " + number)
            for line in (word, " " + word + " 0", word + "  0", word.upper() + " 0", word + "0", word + "\n0"):
                self.check_what(line)
            self.check(before, word + " 3", "error Unfit")
            self.check(before, word + " 999999999", "error Unfit")
        self.check(before, "take 0", "out c")
        self.check(before, "take 2", "out c")
        self.check(before + ("take 2",), "line", "0 a>b b\n1 - a")
        self.check(before, "change 0", "out -")
        self.check(before, "change 1", "error Unfit")
        self.check(("put 0 a>b a>c", "put 1 b>c"), "change 0", "error Blocked")
        self.check(("end",) * 59 + ("put 0",), "take 0", "error TooManyEdits")

    def test_come(self):
        self.check(("put 0 a>b",), "come b", "out -")
        self.check(("put 0 a>b",), "come baac", "out aab")
        self.check(("put 0 a>b", "come baac"), "line", "0 a>b c")
        self.check((), "come " + "abc" * 20, "out " + "abc" * 20)
        self.check((), "come " + "abc" * 20 + "a", "error BadText")
        for row in ("d", "abd", " a", "a ", "a b", "A", "-", "0", "a\n", "\n", "  ", "a>b"):
            self.check((), "come " + row, "error BadText")
        for line in ("come", "come ", "comea", "come\na", " come a", "Come a"):
            self.check_what(line)

    def test_come_of_no_thing_and_of_sixty_and_more(self):
        self.check(("new 8",), "come " + "abcdefgh" * 7 + "abcd", "out " + "abcdefgh" * 7 + "abcd")
        self.check(("new 8",), "come " + "abcdefgh" * 7 + "abcde", "error BadText")
        self.check(("put 0",), "come " + "a" * 59, "out " + "a" * 58)
        self.check(("new 1",), "come " + "a" * 20000, "error BadText")

    def test_what_came_ahead_of_an_error_stays(self):
        before = ("put 0 a>b",) + ("end",) * 56 + ("come cbca",)
        self.assertEqual(said(before).say("log").count("come"), 3)
        self.check(before[:-1], "come cbca", "error TooManyEdits")
        self.check(before, "line", "0 a>b c")
        self.check(before, "outs", "cb")
        self.check(before + ("undo",), "outs", "c")
        # A row that cannot be read lets nothing come.
        self.check(("put 0", "come abz"), "log", "put")

    def test_end_and_undo(self):
        before = ("put 0 a>b", "put 1", "come cb")
        self.check(before, "end", "out cb")
        self.check(before + ("end",), "rest", "-")
        self.check(before, "undo", "out -")
        self.check(before + ("undo",), "line", "0 a>b c\n1 - .")
        self.check(before + ("undo",) * 4, "undo", "error NothingToUndo")
        for word in ("end", "undo"):
            for line in (word + " ", " " + word, word + " 1", word + "\n", word.upper(), word + " now", word + word):
                self.check_what(line)

    def test_what_is_asked(self):
        before = ("put 0 a>b a>c", "put 1", "put 2", "come cbac", "change 0", "take 2")
        desk = Desk(3)
        desk.put(0, ((0, 1), (0, 2)))
        desk.put(1, ())
        desk.put(2, ())
        for kind in (2, 1, 0, 2):
            desk.come(kind)
        desk.change(0)
        desk.take(2)
        self.check(before, "outs", kinds_of(desk.outs))
        self.check(before, "rest", kinds_of(desk.rest()))
        self.check(before, "tickets", " ".join([str(ticket) for ticket, _ in desk.outs]))
        self.check(before, "may", " ".join([str(place) for place in desk.may()]) or "-")
        self.check(before, "log", "put put put come come come come change take")
        for word in ASKED:
            for line in (word + " ", " " + word, word + " 0", word + "\n", word.upper(), word[:-1], word + word):
                self.check_what(line)

    def test_it_changes_nothing(self):
        draw = chance(601)
        for count in range(24):
            shell, plain, books = draw_shell(draw, count % 8 + 1)
            first = shell.script(ASKED)
            self.assertEqual(shell.script(ASKED * 3), first * 3)
            self.assertEqual(first, tuple([plain.say(line) for line in ASKED]))

    def test_bays_of_eight_kinds(self):
        text = text_of(full_book(8))
        self.check(("new 8", "put 0 " + text, "come hgh"), "line", f"0 {text} h")
        self.check(("new 8", "put 0 " + text, "put 1 " + text, "come hgfa"), "line", f"0 {text} h\n1 {text} g")

    def test_numbers_of_nine_figures(self):
        for number in ("999999999", "123456789", "100000000"):
            self.check(("put 0", "put 1"), f"put {number}", "error Unfit")
            self.check(("put 0", "put 1"), f"change {number}", "error Unfit")
        for number in ("9999999999", "1234567890", "0000000001", "1" + "0" * 400):
            self.check_what(f"put {number}")
            self.check_what(f"put {number} a>b")
            self.check_what(f"take {number}")

    def test_other_words_and_values(self):
        for line in ("", " ", "\n", "what", "at 0", "copy", "held", "ways", "version", "say line", "script", "help",
                     "line;line", "line\nline", "put 0;", "error", "x" * 20000, "new 3 ", "__init__"):
            self.check_what(line)
        for line in no_strings() + no_kinds(3)[:9] + [["line"], ("line",), {"line": 0}, nested(20)]:
            before = copy.deepcopy(line)
            self.check_what(line)
            self.assertEqual(repr(line), repr(before))


def draw_shell(draw, n, many=30):
    """Return a shell of n kinds and a plain one to which the same lines were said, and books."""
    shell, plain, books = Shell(), PlainShell(), draw_books(draw, n)
    for line in [f"new {n}"] + [None] * many:
        line = line or draw_line(draw, plain.desk, books)
        if line.startswith("new") and line != f"new {n}":
            continue
        shell.say(line)
        plain.say(line)
    return shell, plain, books


class Scripts(unittest.TestCase):

    def test_drawn_lines(self):
        draw = chance(602)
        found = set()
        for count in range(64):
            n = count % 8 + 1
            shell, plain, books = Shell(), PlainShell(), draw_books(draw, n)
            self.assertEqual(shell.say(f"new {n}"), plain.say(f"new {n}"))
            for _ in range(draw.choice((20, 60, 120))):
                line = draw_line(draw, plain.desk, books)
                if line == "new 3" and n != 3:
                    continue
                if draw.random() < 0.08:
                    line = spoilt(draw, line)
                told = plain.say(line)
                found.add(told if told.startswith("error") else told[:4])
                self.assertEqual(repr(shell.say(line)), repr(told), line)
        self.assertGreaterEqual(found, {
            "what", "new", "out ", "no b", "error Unfit", "error BadText", "error Blocked", "error TooManyEdits"})

    def test_one_line_behind_another(self):
        draw = chance(603)
        for count in range(24):
            books, plain = draw_books(draw, 3), PlainShell()
            lines = []
            for _ in range(30):
                lines.append(draw_line(draw, plain.desk, books))
                if lines[-1].startswith("new"):
                    lines[-1] = None
                plain.say(lines[-1])
            shell, other, third = Shell(), Shell(), PlainShell()
            told = tuple([third.say(line) for line in lines])
            self.assertEqual(shell.script(tuple(lines)), told)
            self.assertEqual(tuple([other.say(line) for line in lines]), told)
            self.assertEqual(shell.script(ASKED), other.script(ASKED))

    def test_no_tuples(self):
        shell = said(("put 0", "come ab"))
        before = shell.script(ASKED)
        for value in no_tuples() + [["line"], "line", {"line": 1}]:
            for call in (lambda: shell.script(value), lambda: shell.script(value=value)):
                with self.assertRaises(BayError) as caught:
                    call()
                self.assertIs(type(caught.exception), Unfit)
        self.assertEqual(shell.script(ASKED), before)

    def test_no_line_and_lines_of_every_sort(self):
        self.assertEqual(Shell().script(()), ())
        lines = tuple(no_strings())
        self.assertEqual(Shell().script(lines), ("what",) * len(lines))
        self.assertEqual(Shell().script(("line",) * 4000), ("no bay",) * 4000)

    def test_what_is_handed_in_stays(self):
        lines = ("put 0", ["put 1"], {"come": [1]}, "come ab", ("line",), "line")
        before = copy.deepcopy(lines)
        self.assertEqual(Shell().script(lines), ("out -", "what", "what", "out a", "what", "0 - b"))
        self.assertEqual(repr(lines), repr(before))


class WhatHolds(unittest.TestCase):

    def test_behind_new_a_shell_is_as_a_new_one(self):
        draw = chance(604)
        for count in range(24):
            n = count % 8 + 1
            shell, _, books = draw_shell(draw, draw.randint(1, 8))
            other = Shell()
            self.assertEqual(shell.say(f"new {n}"), other.say(f"new {n}"))
            self.assertEqual(shell.script(ASKED), other.script(ASKED))
            plain, books = PlainDesk(n), draw_books(draw, n)
            for _ in range(20):
                line = draw_line(draw, plain, books)
                if not line.startswith("new"):
                    self.assertEqual(shell.say(line), other.say(line))

    def test_two_shells_do_not_change_with_one_another(self):
        one, other = Shell(), Shell()
        one.script(("put 0", "come ab"))
        self.assertEqual(other.say("log"), "-")
        other.say("new 2")
        self.assertEqual(one.say("line"), "0 - b")

    def test_the_names_of_the_errors(self):
        for before, line, name in (
            ((), "take 0", "Unfit"), ((), "come z", "BadText"), ((), "put 0 a>a", "BadBook"), (("put 0",) * 6, "put 0", "TooMany"),
            (("put 0 a>b", "put 1 b>c"), "change 0", "Blocked"), ((), "undo", "NothingToUndo"),
            (("end",) * 60, "end", "TooManyEdits"),
        ):
            self.assertEqual(said(before).say(line), "error " + name)


if __name__ == "__main__":
    unittest.main()
