"""Plants as texts, written and read."""

from baylines.books import book_error, common, only, ranked
from baylines.bounds import MAX_BAYS, MAX_KINDS, MAX_NAMES, MAX_NESTED
from baylines.errors import BadBook, BadText, NoName, Taken, TooMany
from baylines.lexing import is_name, next_place, token_at
from baylines.ranks import full


def book_told(kinds, book):
    """Return what a book is, as the text of a plant tells it."""
    if book == ():
        return "none"
    return "pairs" + "".join([f" {kinds[x]} > {kinds[h]}" for x, h in book])


def line_told(books, line):
    """Return the parts of a line, as the text of a plant tells them."""
    if line == ():
        return f" 0 * {books[0][0]}"
    names = {}
    for name, book in books:
        names.setdefault(book, name)
    return "".join([f" {names[book]}" for book in line])


def plant_text(plant):
    """Return the text of plant."""
    kinds, books, lines = plant
    told = ["kinds" + "".join([f" {name}" for name in kinds]) + ";"]
    told.extend([f"book {name} = {book_told(kinds, book)};" for name, book in books])
    told.extend([f"line {name} ={line_told(books, line)};" for name, line in lines])
    return "\n".join(told)


def name_of(token):
    """Return the name that a token is; BadText if it is none."""
    if not is_name(token[1]):
        raise BadText(token[2])
    return token[1]


def check_few(many):
    """Raise TooMany(MAX_BAYS) if many bays are more."""
    if many > MAX_BAYS:
        raise TooMany(MAX_BAYS)


class Reader:
    """Reads the text of a plant token by token, so that the first fault is the one that is met."""

    def __init__(self, text):
        self.text = text
        self.behind = next_place(text, 0)
        self.levels = 0
        self.names = {}
        self.kinds = []
        self.books = {}
        self.lines = {}

    def is_done(self):
        """Return whether no token is left."""
        return self.behind == len(self.text)

    def token(self):
        """Return the next token; BadText if there is none, or what stands there is none."""
        if self.is_done():
            raise BadText(len(self.text))
        token = token_at(self.text, self.behind)
        self.behind = next_place(self.text, self.behind + len(token[1]))
        return token

    def expect(self, text):
        """Read the token with this text; BadText if it is another one."""
        token = self.token()
        if token[1] != text:
            raise BadText(token[2])

    def new_name(self, token):
        """Return the name that a token gives to something; Taken or TooMany if it cannot."""
        given = name_of(token)
        if given in self.names:
            raise Taken(given)
        if len(self.names) == MAX_NAMES:
            raise TooMany(MAX_NAMES)
        self.names[given] = True
        return given

    def kind_of(self, token):
        """Return the kind of which a token is the name."""
        given = name_of(token)
        if given not in self.kinds:
            raise NoName(given)
        return self.kinds.index(given)

    def book_of(self, token):
        """Return the book of which a token is the name."""
        given = name_of(token)
        if given not in self.books:
            raise NoName(given)
        return self.books[given]

    def read_kinds(self):
        """Read the kinds, up to their sign at the end."""
        self.expect("kinds")
        self.kinds.append(self.new_name(self.token()))
        token = self.token()
        while token[1] != ";":
            if len(self.kinds) == MAX_KINDS:
                raise BadText(token[2])
            self.kinds.append(self.new_name(token))
            token = self.token()

    def read_pairs(self):
        """Return the book of the pairs that are told, up to the sign at the end."""
        found = {}
        token = self.token()
        while token[1] != ";":
            x = self.kind_of(token)
            self.expect(">")
            h = self.kind_of(self.token())
            found[(x, h)] = True
            token = self.token()
        pairs = tuple(sorted(found))
        error = book_error(len(self.kinds), pairs)
        if error is not None:
            raise BadBook(error)
        return pairs

    def read_ranks(self):
        """Return the book of the ranks that are told, one for each kind."""
        levels = []
        while len(levels) < len(self.kinds):
            token = self.token()
            if token[0] != "number":
                raise BadText(token[2])
            levels.append(int(token[1]))
        return ranked(tuple(levels))

    def read_only(self):
        """Return the part of a book that is told, its passers being named."""
        chosen = [self.kind_of(self.token())]
        token = self.token()
        while token[1] != "of":
            chosen.append(self.kind_of(token))
            token = self.token()
        return only(self.book_of(self.token()), tuple(sorted(set(chosen))))

    def read_other(self, token):
        """Return the book, not one of pairs, that is told from this token on, up to what stands at its end."""
        word = token[1]
        if word == "none":
            return ()
        if word == "full":
            return full(len(self.kinds))
        if word == "ranks":
            return self.read_ranks()
        if word == "only":
            return self.read_only()
        if word == "common":
            one = self.book_of(self.token())
            return common(one, self.book_of(self.token()))
        return self.book_of(token)

    def read_book(self):
        """Read a book, from its name to the sign at its end."""
        given = self.new_name(self.token())
        self.expect("=")
        token = self.token()
        if token[1] == "pairs":
            book = self.read_pairs()
        else:
            book = self.read_other(token)
            self.expect(";")
        self.books[given] = book

    def read_line(self):
        """Read a line, from its name to the sign at its end."""
        given = self.new_name(self.token())
        self.expect("=")
        self.lines[given] = self.read_parts(";")

    def read_parts(self, close):
        """Return the bays of one part or more, up to the sign that closes them."""
        bays = self.read_part(self.token())
        token = self.token()
        while token[1] != close:
            bays = bays + self.read_part(token)
            check_few(len(bays))
            token = self.token()
        return bays

    def read_part(self, token):
        """Return the bays of the part that begins with this token."""
        if token[1] == "(":
            self.open_level(token)
            bays = self.read_parts(")")
            self.levels -= 1
            return bays
        if token[0] == "number":
            return self.read_times(int(token[1]))
        given = name_of(token)
        if given in self.lines:
            return self.lines[given]
        return (self.book_of(token),)

    def read_times(self, times):
        """Return the bays of the part behind a number and its sign, so many times."""
        token = self.token()
        if token[1] != "*":
            raise BadText(token[2])
        self.open_level(token)
        bays = self.read_part(self.token())
        self.levels -= 1
        check_few(times * len(bays))
        return bays * times

    def open_level(self, token):
        """Count the level that a token opens; BadText if it is one too many."""
        if self.levels == MAX_NESTED:
            raise BadText(token[2])
        self.levels += 1


def read_plant(value):
    """Return the plant that value, any value, tells, otherwise raise the first fault from the left."""
    if not isinstance(value, str):
        raise BadText(0)
    reader = Reader(value)
    reader.read_kinds()
    while not reader.is_done():
        token = reader.token()
        if token[1] == "book" and reader.lines == {}:
            reader.read_book()
        elif token[1] == "line":
            reader.read_line()
        else:
            raise BadText(token[2])
    # A dict keeps the order in which the names were given.
    return (tuple(reader.kinds), tuple(reader.books.items()), tuple(reader.lines.items()))
