"""Books, lines and rows drawn by chance, and books judged by the document's words.

Nothing here asks the package, so that it may be held against it.
"""

import itertools
import random

# Lines of which just so many standings come, the bound and one more.
JUST_4000 = (8, (((3, 2),), (), ((1, 4), (1, 7), (2, 0), (2, 5), (3, 4), (3, 5), (3, 7), (7, 4)), ()))
JUST_4001 = [
    (4, ((), ((3, 0),), (), ((1, 0), (2, 0), (2, 1)), (), ((2, 0), (2, 1), (3, 0), (3, 1), (3, 2)))),
    (8, ((), ((5, 3), (5, 6)), ((1, 4), (2, 0), (2, 3), (2, 4), (2, 6), (6, 0), (6, 3), (6, 4), (7, 4)), ())),
]


def chance(seed):
    """Return a source of chance that gives the same again for the same seed."""
    return random.Random(seed)


def pairs_of(n):
    """Return all pairs of kinds of n, also those of one kind."""
    return list(itertools.product(range(n), repeat=2))


def is_order(pairs):
    """Return whether no kind passes itself, and each passes whom those pass that it passes."""
    have = set(pairs)
    no_self = all(x != h for x, h in have)
    return no_self and all((x, z) in have for x, y in have for again, z in have if y == again)


def closure(pairs):
    """Return the ascending tuple of pairs with all that must stand beside them."""
    have = set(pairs)
    while True:
        more = {(x, z) for x, y in have for again, z in have if y == again} - have
        if not more:
            return tuple(sorted(have))
        have |= more


def books_of(n):
    """Return the ascending list of all books of n (of 1 to 4), of all sets of pairs."""
    pairs = [pair for pair in pairs_of(n) if pair[0] != pair[1]]
    lots = itertools.chain(*[itertools.combinations(pairs, many) for many in range(n * (n - 1) // 2 + 1)])
    return sorted([lot for lot in lots if is_order(lot)])


def full_book(n):
    """Return the book in which each lesser kind passes each greater one."""
    return tuple(itertools.combinations(range(n), 2))


def draw_book(draw, n):
    """Return a book of n: some of the pairs that lead down a drawn ranking, closed."""
    ranking = list(range(n))
    draw.shuffle(ranking)
    share = draw.choice((0.1, 0.3, 0.6, 1.0))
    down = [pair for pair in itertools.combinations(ranking, 2) if draw.random() < share]
    return closure(down)


def draw_line(draw, n, most=6):
    """Return a line of n with at most so many bays, some of them with one book."""
    books = [draw_book(draw, n) for _ in range(draw.randint(1, 3))] + [()]
    return tuple([draw.choice(books) for _ in range(draw.randint(0, most))])


def draw_row(draw, n, most=60):
    """Return a row of n with at most so many things."""
    return tuple([draw.randrange(n) for _ in range(draw.randint(0, most))])


def draw_standing(draw, n, line):
    """Return any standing of line, also one that never comes: what is held stands in front."""
    held = draw.randint(0, len(line))
    return tuple([draw.randrange(n) for _ in range(held)]) + (None,) * (len(line) - held)


def draw_part(draw, n, book):
    """Return the pairs of a book whose passers are among drawn kinds."""
    chosen = [x for x in range(n) if draw.random() < 0.6]
    return tuple([pair for pair in book if pair[0] in chosen])


def drawn_books(seed, many):
    """Yield (draw, n, one, other) again and again, each n from 1 to 8 among them.

    Many of the books are parts of one book, as others are mostly blocked.
    """
    draw = chance(seed)
    for count in range(many):
        n = count % 8 + 1
        book, more = draw_book(draw, n), draw_book(draw, n)
        one, other = draw_part(draw, n, book), draw_part(draw, n, book)
        yield (draw, n) + draw.choice(((one, other), (book, other), (one, book), (one, more), (book, more)))


def draw_fitting_line(draw, n, most=6):
    """Return a line of n with at most so many bays, of books many of which are not blocked."""
    book, more = draw_book(draw, n), draw_book(draw, n)
    books = [book, more, ()] + [draw_part(draw, n, draw.choice((book, book, more))) for _ in range(3)]
    books += [(pair,) for pair in draw.sample(book, min(2, len(book)))]
    return tuple([draw.choice(books) for _ in range(draw.randint(0, most))])


def draw_lines(draw, n, most=5):
    """Return two lines of n that may do the same, or nearly so."""
    line = draw_fitting_line(draw, n, most)
    other = draw.choice((line, tuple(draw.sample(line, len(line))), line[1:], tuple([book for book in line if book])))
    if len(other) < most and draw.random() < 0.5:
        at = draw.randint(0, len(other))
        other = other[:at] + (draw.choice(((), (), draw_book(draw, n))),) + other[at:]
    return line, other


def drawn_lines(seed, many, kinds=8, most=5):
    """Yield (draw, n, one, other) again and again, each n from 1 to kinds among them."""
    draw = chance(seed)
    for count in range(many):
        n = count % kinds + 1
        yield (draw, n) + draw_lines(draw, n, most)
