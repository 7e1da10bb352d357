"""Plants drawn by chance, and plants and their texts judged by the document's words."""

import re

from tests.drawn import closure, draw_book, full_book, is_order

KEYWORDS = ("book", "common", "full", "kinds", "line", "none", "of", "only", "pairs", "ranks")

LETTERS = "abcdefghijklmnopqrstuvwxyz"


def is_name(value):
    return isinstance(value, str) and re.fullmatch("[a-z]{1,8}", value) is not None and value not in KEYWORDS


def draw_names(draw, many):
    """Return a list of many unlike names, short ones among them."""
    names = []
    while len(names) < many:
        name = "".join([draw.choice(LETTERS) for _ in range(draw.choice((1, 1, 2, 3, 8)))])
        if is_name(name) and name not in names:
            names.append(name)
    return names


def draw_plant(draw, n, books=None, lines=None):
    """Return a plant of n kinds with so many books and lines, or drawn numbers of them."""
    many = draw.randint(0, 5) if books is None else books
    more = draw.randint(0, 4) if lines is None else lines
    names = draw_names(draw, n + many + (more if many else 0))
    kinds, rest = tuple(names[:n]), names[n:]
    shelf = [(name, draw.choice((draw_book(draw, n), draw_book(draw, n), ()))) for name in rest[:many]]
    told = []
    for name in rest[many:]:
        told.append((name, tuple([draw.choice(shelf)[1] for _ in range(draw.randint(0, 6))])))
    return (kinds, tuple(shelf), tuple(told))


def spread(draw, text):
    """Return text with more blanks and line feeds ahead of some tokens, behind them and at the ends."""
    parts = re.findall(r"[a-z]+|[0-9]+|[;=>()*]", text)
    told = ""
    for part in parts:
        close = told[-1:].isalnum() and part.isalnum()
        told += draw.choice((" ", "\n", "  \n ") if close else ("", "", " ", "\n", " \n\n ")) + part
    return told + draw.choice(("", " ", "\n\n"))


class Fault(Exception):
    """The first fault of a text: the name of its error, and what that keeps."""


class Reading:
    """A plain reading of [L4] and [L5]: the tokens are gone through from left to right."""

    def __init__(self, text):
        self.text = text
        self.at = 0
        self.names = []
        self.kinds = []
        self.books = []
        self.lines = []

    def peek(self):
        """Return the next token's text and place; its text is "" at the end."""
        place = self.at
        while self.text[place:place + 1] in (" ", "\n"):
            place += 1
        row = re.compile(r"[a-z]+|[0-9]+|.?", re.DOTALL).match(self.text, place).group()
        if row and not re.fullmatch(r"[a-z]{1,8}|0|[1-9][0-9]{0,2}|[;=>()*]", row):
            raise Fault("BadText", place)
        return row, place

    def next(self, wanted):
        """Return the next token's text if the pattern wanted takes it whole."""
        row, place = self.peek()
        if not row or not re.fullmatch(wanted, row):
            raise Fault("BadText", place)
        self.at = place + len(row)
        return row

    def name(self):
        row, place = self.peek()
        if not is_name(row):
            raise Fault("BadText", place)
        return self.next(".*")

    def given(self):
        name = self.name()
        if name in self.names:
            raise Fault("Taken", name)
        if len(self.names) == 40:
            raise Fault("TooMany", 40)
        self.names.append(name)
        return name

    def known(self, table):
        name = self.name()
        if name not in dict(table):
            raise Fault("NoName", name)
        return dict(table)[name]

    def kind(self):
        return self.known([(name, x) for x, name in enumerate(self.kinds)])

    def plant(self):
        self.next("kinds")
        self.kinds.append(self.given())
        while self.peek()[0] != ";":
            if len(self.kinds) == 8:
                raise Fault("BadText", self.peek()[1])
            self.kinds.append(self.given())
        self.next(";")
        while self.peek()[0] == "book":
            self.next("book")
            name = self.given()
            self.next("=")
            self.books.append((name, self.book()))
        while self.peek()[0] != "":
            self.next("line")
            name = self.given()
            self.next("=")
            bays = self.parts(";", 0)
            self.lines.append((name, bays))
        return (tuple(self.kinds), tuple(self.books), tuple(self.lines))

    def book(self):
        """Return the book that is told, the sign behind it being read."""
        n, word = len(self.kinds), self.peek()[0]
        if word not in ("none", "full", "pairs", "ranks", "only", "common"):
            book = self.known(self.books)
        else:
            self.next(word)
            if word == "none":
                book = ()
            elif word == "full":
                book = full_book(n)
            elif word == "common":
                one, other = self.known(self.books), self.known(self.books)
                book = tuple(sorted(set(one) & set(other)))
            elif word == "ranks":
                ranks = [int(self.next("[0-9]+")) for _ in range(n)]
                book = tuple([(x, h) for x in range(n) for h in range(n) if ranks[x] < ranks[h]])
            elif word == "only":
                chosen = [self.kind()]
                while self.peek()[0] != "of":
                    chosen.append(self.kind())
                self.next("of")
                book = tuple([pair for pair in self.known(self.books) if pair[0] in chosen])
            else:
                return self.pairs()
        self.next(";")
        return book

    def pairs(self):
        found = set()
        while self.peek()[0] != ";":
            x = self.kind()
            self.next(">")
            found.add((x, self.kind()))
        self.next(";")
        if not is_order(found):
            raise Fault("BadBook", first_fault(found))
        return tuple(sorted(found))

    def parts(self, close, level):
        bays = self.part(level)
        while self.peek()[0] != close:
            bays = self.few(bays + self.part(level))
        self.next(re.escape(close))
        return bays

    def few(self, bays):
        if len(bays) > 6:
            raise Fault("TooMany", 6)
        return bays

    def level(self, sign, level):
        if level == 12:
            raise Fault("BadText", self.peek()[1])
        self.next(re.escape(sign))
        return level + 1

    def part(self, level):
        row = self.peek()[0]
        if row == "(":
            return self.parts(")", self.level("(", level))
        if row.isdigit():
            self.next(row)
            if self.peek()[0] != "*":
                raise Fault("BadText", self.peek()[1])
            return self.few(self.part(self.level("*", level)) * int(row))
        return self.known([(name, (book,)) for name, book in self.books] + self.lines)


def first_fault(pairs):
    """Return what book_error tells of ascending pairs that are no book."""
    selves = sorted([x for x, h in pairs if x == h])
    if selves:
        return ("self", selves[0])
    triples = sorted([(x, y, z) for x, y in pairs for again, z in pairs if y == again and (x, z) not in pairs])
    return ("whom",) + triples[0]


def told_reading(text):
    """Return ("plant", plant), or the name of the error and what it keeps."""
    try:
        return ("plant", Reading(text).plant())
    except Fault as fault:
        return fault.args


def draw_text(draw, n):
    """Return a text that tells a plant of n kinds, of all that may stand there."""
    names = draw_names(draw, n + draw.randint(0, 6) + draw.randint(0, 4))
    kinds, rest = names[:n], names[n:]
    told = ["kinds " + " ".join(kinds) + ";"]
    books, lines = [], []
    for name in rest:
        if not lines and (not books or draw.random() < 0.6):
            told.append(f"book {name} = {draw_book_text(draw, kinds, books)};")
            books.append(name)
        else:
            told.append(f"line {name} = {draw_parts(draw, books + lines, 3)};")
            lines.append(name)
    return "\n".join(told)


def draw_book_text(draw, kinds, books):
    """Return what a book may be told to be."""
    way = draw.choice(("none", "full", "pairs", "pairs", "ranks", "only", "common", "name"))
    if way == "pairs":
        down = draw_book(draw, len(kinds))
        pairs = [pair for pair in down if draw.random() < 0.9]
        pairs = list(closure(pairs)) if draw.random() < 0.9 else pairs
        draw.shuffle(pairs)
        return "pairs " + " ".join([f"{kinds[x]} > {kinds[h]}" for x, h in pairs + pairs[:draw.choice((0, 1))]])
    if way == "ranks":
        return "ranks " + " ".join([str(draw.choice((0, 1, 2, 999))) for _ in kinds])
    if way in ("none", "full") or not books:
        return draw.choice(("none", "full"))
    if way == "only":
        return "only " + " ".join(draw.choices(kinds, k=draw.randint(1, 4))) + " of " + draw.choice(books)
    if way == "common":
        return f"common {draw.choice(books)} {draw.choice(books)}"
    return draw.choice(books)


def draw_parts(draw, names, deep):
    """Return one part or more, with few bays mostly."""
    parts = []
    for _ in range(draw.choice((1, 1, 2, 3))):
        way = draw.random()
        if deep and way < 0.2:
            parts.append("(" + draw_parts(draw, names, deep - 1) + ")")
        elif deep and way < 0.4:
            parts.append(f"{draw.choice((0, 1, 1, 2, 3))} * ({draw_parts(draw, names, deep - 1)})")
        elif way < 0.5:
            parts.append(f"{draw.choice((0, 1, 2))}*{draw.choice((0, 1, 2))}*{draw.choice(names)}")
        else:
            parts.append(draw.choice(names))
    return " ".join(parts)


def spoilt(draw, text):
    """Return text with one token or two left out, told twice, put in another's place or spoilt."""
    parts = re.findall(r"[a-z]+|[0-9]+|[;=>()*]|[ \n]+", text)
    for _ in range(draw.choice((1, 1, 2, 3))):
        parts = parts or [" "]
        place, way = draw.randrange(len(parts)), draw.randrange(6)
        if way == 0:
            del parts[place]
        elif way == 1:
            parts.insert(place, " " + draw.choice(parts) + " ")
        elif way == 2:
            parts[place] = " " + draw.choice(parts) + " "
        elif way == 3:
            parts[place] = draw.choice((
                " _ ", " 007 ", " abcdefghi ", " 1000 ", " A ", " of ", " line ", " zzz ", " 7 ", "(", ")", "*", ";", "=",
                " book ", " kinds ", ">", " 5 * ", " none "))
        elif way == 4:
            parts = parts[:place + 1]
        else:
            other = draw.randrange(len(parts))
            parts[place], parts[other] = parts[other], parts[place]
    return "".join(parts)
