"""[A2](c), [A3], [G4] and [G5] of the document: kept papers."""

import itertools
import unittest

from baylines.doubles import doubles
from baylines.errors import TooMany
from baylines.papers import kept, kept_error
from baylines.sameness import parted
from baylines.tables import table
from tests.bays import standings, told_begin, told_ending, told_joints, told_lead, told_parts, told_whole
from tests.drawn import JUST_4000, JUST_4001, books_of, chance, draw_row, draw_standing, drawn_lines, full_book
from tests.examples import check
from tests.values import check_error, check_returns, nested, no_kinds, no_tuples

EXAMPLES = """
    >>> quick, idle, first, second = ((0, 1),), (), ((0, 1),), ((1, 2),)
    >>> from baylines.papers import kept, kept_error
    >>> small = (((), (None,), ((), ())), ((), (0,), ((0,), ())), ((), (1,), ((1,), ())))
    >>> kept_error(2, (), (idle,), small), kept_error(2, (), (idle,), small[1:]), kept_error(2, (), (idle,), small[:2]), kept_error(2, (), (idle,), small + small[:1])
    (None, 'begin', ('leads', 0, 1), 'form')
    >>> odd = ((), (0,), ((), ()))
    >>> kept_error(2, (), (idle,), small + (odd,)), kept_error(1, (), (idle,), small[:2] + (odd,)), kept_error(2, (), (idle,), small[:1] + (odd,)), kept_error(2, (quick,), (), (((None,), (), ((), ())),))
    (('out', 3, 1), ('ending', 2), ('leads', 0, 0), ('leads', 0, 0))
    >>> found = kept(3, (second, first, second), (second, second, first))
    >>> kept_error(3, (second, first, second), (second, second, first), found), len(found) >= 34, kept(3, (first, second), (second, first))
    (None, True, None)
"""

QUICK, IDLE, SECOND = ((0, 1),), (), ((1, 2),)
SMALL = (((), (None,), ((), ())), ((), (0,), ((0,), ())), ((), (1,), ((1,), ())))


def is_kind(n, value):
    return type(value) is int and 0 <= value < n


def is_standing(n, line, value):
    """Return whether value is a standing of line."""
    if type(value) is not tuple or len(value) != len(line):
        return False
    held = [item for item in value if item is not None]
    return all([is_kind(n, item) for item in held]) and value == tuple(held) + (None,) * (len(value) - len(held))


def is_ahead(n, value):
    """Return whether value is a pair of tuples of few kinds, one of them ()."""
    if type(value) is not tuple or len(value) != 2 or not all([type(item) is tuple for item in value]):
        return False
    few = len(value[0]) <= 6 and len(value[1]) <= 6 and min(len(value[0]), len(value[1])) == 0
    return few and all([is_kind(n, item) for item in value[0] + value[1]])


def is_joint(n, one, other, value):
    """Return whether value is a triple as a kept paper has them."""
    if type(value) is not tuple or len(value) != 3:
        return False
    return is_standing(n, one, value[0]) and is_standing(n, other, value[1]) and is_ahead(n, value[2])


def told_kept_error(n, one, other, value):
    """What kept_error has to return."""
    if type(value) is not tuple or not 1 <= len(value) <= 4000:
        return "form"
    if not all([is_joint(n, one, other, item) for item in value]) or len(set(value)) != len(value):
        return "form"
    among = set(value)
    if told_begin(one, other) not in among:
        return "begin"
    for place, joint in enumerate(value):
        found = [told_lead(one, other, joint, x) for x in range(n)]
        out = [x for x in range(n) if found[x][2][0] and found[x][2][1]]
        away = [x for x in range(n) if found[x] not in among]
        if out:
            return ("out", place, out[0])
        if away:
            return ("leads", place, away[0])
        if joint[2][0] + told_ending(one, joint[0]) != joint[2][1] + told_ending(other, joint[1]):
            return ("ending", place)
    return None


def is_kept(n, one, other, paper):
    """Return whether paper is a kept paper, judged by all that is told of one at once."""
    among = set(paper)
    leads = {told_lead(one, other, joint, x) for joint in paper for x in range(n)}
    parts = any(told_parts(one, other, joint) for joint in paper)
    few = 1 <= len(paper) <= 4000 and len(among) == len(paper)
    return few and told_begin(one, other) in among and leads <= among and not parts


def reached(n, one, other, most):
    """Return the tuple of the first most joint standings to which rows lead, whether they part or not."""
    found = [told_begin(one, other)]
    for joint in found:
        for x in range(n):
            behind = told_lead(one, other, joint, x)
            # Behind what parts so the tuples may grow without an end.
            if behind not in found and not all(behind[2]) and len(found) < most:
                found.append(behind)
    return tuple(found)


def draw_joint(draw, n, one, other):
    """Return a triple that has the form of one of a kept paper."""
    ahead = tuple([draw.randrange(n) for _ in range(draw.choice((0, 0, 1, 2, 6)))])
    return (draw_standing(draw, n, one), draw_standing(draw, n, other), draw.choice(((ahead, ()), ((), ahead))))


def draw_paper(draw, n, one, other):
    """Return a paper that may have something left out, told twice, turned, moved or put in."""
    paper = list(reached(n, one, other, 300))
    for _ in range(draw.choice((0, 1, 1, 2))):
        way, place = draw.randrange(6), draw.randrange(len(paper) or 1)
        if way == 0 and paper:
            del paper[place]
        elif way == 1 and paper:
            paper.insert(draw.randint(0, len(paper)), paper[place])
        elif way == 2:
            draw.shuffle(paper)
        elif way == 3 and paper:
            standing, other_standing, ahead = paper[place]
            paper[place] = (standing, other_standing, ahead[::-1])
        elif way == 4 and paper:
            standing, other_standing, ahead = paper[place]
            paper[place] = (standing, other_standing, (ahead[0] + (0,), ahead[1]))
        else:
            paper.insert(place, draw_joint(draw, n, one, other))
    return tuple(paper)


class Examples(unittest.TestCase):

    def test_as_they_stand_in_the_document(self):
        check(self, EXAMPLES)


class Kept(unittest.TestCase):

    def check(self, n, one, other):
        """Check kept by the joint standings that are told by words; return whether it is a paper."""
        told = told_joints(n, one, other)
        if told is None:
            check_error(self, TooMany(4000), kept, n=n, one=one, other=other)
            return False
        if told[1] is not None:
            check_returns(self, None, kept, n=n, one=one, other=other)
            return False
        paper = kept(n, one, other)
        check_returns(self, paper, kept, n=n, one=one, other=other)
        self.assertTrue(is_kept(n, one, other, paper))
        self.assertIsNone(told_kept_error(n, one, other, paper))
        check_returns(self, None, kept_error, n=n, one=one, other=other, value=paper)
        return True

    def test_all_pairs_of_lines_of_few_bays_and_two_kinds(self):
        lines = [line for many in range(3) for line in itertools.product(books_of(2), repeat=many)]
        for one, other in itertools.product(lines, repeat=2):
            self.check(2, one, other)

    def test_drawn_lines(self):
        papers = sum([self.check(n, one, other) for _, n, one, other in drawn_lines(181, 120, 8, 3)])
        self.assertGreater(papers, 30)

    def test_drawn_lines_of_more_bays(self):
        papers = sum([self.check(n, one, other) for _, n, one, other in drawn_lines(182, 24, 4, 6)])
        self.assertGreater(papers, 5)

    def test_either_a_kept_paper_or_a_row_that_parts(self):
        for _, n, one, other in drawn_lines(183, 120, 8, 3):
            self.assertEqual(kept(n, one, other) is None, parted(n, one, other) is not None)

    def test_just_as_many_as_may_be(self):
        n, line = JUST_4000
        self.assertEqual(len(kept(n, line, line)), 4000)
        one = (QUICK, QUICK, (), QUICK, ())
        self.assertIsNone(kept_error(4, one, one + ((),), kept(4, one, one + ((),))))

    def test_more_than_may_be(self):
        for n, line in JUST_4001:
            check_error(self, TooMany(4000), kept, n=n, one=line, other=line)
        check_error(self, TooMany(4000), kept, n=8, one=((),) * 6, other=())

    def test_what_parts_ahead_of_too_many(self):
        check_returns(self, None, kept, n=8, one=(full_book(8),) + ((),) * 5, other=((),) * 6)

    def test_lines_of_no_bay_and_of_one_kind(self):
        self.assertEqual(kept(3, (), ()), (((), (), ((), ())),))
        for one, other in itertools.product(range(7), repeat=2):
            self.assertTrue(self.check(1, ((),) * one, ((),) * other))


class KeptError(unittest.TestCase):

    def check(self, n, one, other, value):
        wanted = told_kept_error(n, one, other, value)
        check_returns(self, wanted, kept_error, n=n, one=one, other=other, value=value)
        return wanted

    def test_drawn_papers_with_something_wrong(self):
        met = {}
        for draw, n, one, other in drawn_lines(184, 600, 4, 3):
            error = self.check(n, one, other, draw_paper(draw, n, one, other))
            word = error if error is None or isinstance(error, str) else error[0]
            met[word] = met.get(word, 0) + 1
        self.assertEqual(set(met), {None, "form", "begin", "out", "leads", "ending"})
        self.assertGreater(min(met.values()), 4)

    def test_papers_of_two_triples_of_any_sort(self):
        aheads = [((), ()), ((0,), ()), ((), (1,)), ((1, 0), ())]
        for one, other in (((), (IDLE,)), ((QUICK,), (IDLE,)), ((QUICK,), (QUICK,))):
            begin = told_begin(one, other)
            for joint in itertools.product(standings(2, len(one)), standings(2, len(other)), aheads):
                self.check(2, one, other, (begin, joint))
                self.check(2, one, other, (joint, begin))

    def test_a_paper_with_each_triple_left_out_told_twice_or_turned(self):
        one, other = (SECOND, QUICK, SECOND), (SECOND, SECOND, QUICK)
        paper = kept(3, one, other)
        for at, joint in enumerate(paper):
            self.assertIsNotNone(self.check(3, one, other, paper[:at] + paper[at + 1:]))
            self.assertEqual(self.check(3, one, other, paper + (joint,)), "form")
            turned = (joint[1], joint[0], joint[2])
            self.check(3, one, other, paper[:at] + (turned,) + paper[at + 1:])

    def test_other_orders_and_more_triples_are_taken(self):
        one, other = (SECOND, QUICK, SECOND), (SECOND, SECOND, QUICK)
        paper = kept(3, one, other)
        check_returns(self, None, kept_error, n=3, one=one, other=other, value=tuple(reversed(paper)))
        # All standings beside themselves, also one that does not come.
        whole_lot = tuple([(standing, standing, ((), ())) for standing in standings(2, 2)])
        check_returns(self, None, kept_error, n=2, one=(QUICK, QUICK), other=(QUICK, QUICK), value=whole_lot)
        self.assertLess(len(kept(2, (QUICK, QUICK), (QUICK, QUICK))), len(whole_lot))

    def test_values_that_are_no_tuples(self):
        for value in no_tuples() + [(), list(SMALL)]:
            check_returns(self, "form", kept_error, n=2, one=(), other=(IDLE,), value=value)

    def test_items_that_are_no_triples(self):
        items = no_kinds(2) + [
            ((), (0,)), ((), (0,), ((), ()), ()), [(), (0,), ((), ())], ((), [0], ((), ())), ([], (0,), ((), ())),
            ((), (0,), [(), ()]), ((), (0,), ([], ())), ((), (0,), ((), [])), ((), (0,), ((), (), ())),
            ((), (0,), ((),)), ((), (0,), ()), ((), (0,), None), ((), (0,), (None, ())),
            ((), (0,), ((0,), (0,))), ((), (0,), ((0,), (1,))),
            ((), (2,), ((), ())), ((), (-1,), ((), ())), ((), (True,), ((), ())), ((), ("0",), ((), ())),
            ((), (), ((), ())), ((0,), (0,), ((), ())), ((), (0, 0), ((), ())), ((None,), (0,), ((), ())),
            ((), (0,), ((2,), ())), ((), (0,), ((), (-1,))), ((), (0,), ((True,), ())), ((), (0,), ((None,), ())),
            ((), (0,), ("0", ())), ((), (0,), ({}, ())), ((), ((0,),), ((), ())), ((), (0,), (((0,),), ())),
            ((), (0,), ((0,) * 7, ())), ((), (0,), ((), (1,) * 7)), ((), (10 ** 399,), ((), ())),
            ((), (nested(18),), ((), ())), ((), (0,), ((nested(17),), ())), {0: 0}, "()",
        ]
        for item in items:
            for value in ((item,), SMALL + (item,), (item,) + SMALL):
                self.assertEqual(told_kept_error(2, (), (IDLE,), value), "form")
                check_returns(self, "form", kept_error, n=2, one=(), other=(IDLE,), value=value)

    def test_gaps(self):
        line = (IDLE, IDLE)
        paper = kept(2, line, line)
        for standing in ((None, 0), (None, 1)):
            for joint in ((standing, (0, None), ((), ())), ((0, None), standing, ((), ()))):
                check_returns(self, "form", kept_error, n=2, one=line, other=line, value=paper + (joint,))

    def test_true_is_not_one(self):
        check_returns(self, None, kept_error, n=2, one=(), other=(IDLE,), value=SMALL)
        for place, joint in ((1, ((), (False,), ((0,), ()))), (2, ((), (1,), ((True,), ())))):
            value = SMALL[:place] + (joint,) + SMALL[place + 1:]
            check_returns(self, "form", kept_error, n=2, one=(), other=(IDLE,), value=value)

    def test_six_things_ahead_and_seven(self):
        one, other = (), (IDLE,) * 6
        paper = kept(2, one, other)
        self.assertEqual(max([len(joint[2][0]) for joint in paper]), 6)
        check_returns(self, None, kept_error, n=2, one=one, other=other, value=paper)
        standing, other_standing, ahead = [joint for joint in paper if len(joint[2][0]) == 6][0]
        value = paper + ((standing, other_standing, (ahead[0] + (0,), ())),)
        check_returns(self, "form", kept_error, n=2, one=one, other=other, value=value)

    def test_as_many_triples_as_may_be_and_one_more(self):
        n, line = JUST_4000
        paper = kept(n, line, line)
        self.assertEqual(len(paper), 4000)
        check_returns(self, None, kept_error, n=n, one=line, other=line, value=paper)
        n, line = JUST_4001[0]
        paper = tuple(told_joints(n, line, line, 4001)[0])
        self.assertEqual(len(paper), 4001)
        # Nothing is wrong with it but that these are too many.
        check_returns(self, "form", kept_error, n=n, one=line, other=line, value=paper)
        wanted = told_kept_error(n, line, line, paper[:4000])
        self.assertEqual(wanted[0], "leads")
        check_returns(self, wanted, kept_error, n=n, one=line, other=line, value=paper[:4000])
        check_returns(self, "begin", kept_error, n=n, one=line, other=line, value=paper[1:])

    def test_papers_of_as_many_triples_as_may_be_with_others_put_in(self):
        line = ((),) * 3
        paper = kept(8, line, ())
        self.assertEqual(len(paper), 585)
        others = [(standing, (), ((), (x,))) for standing in standings(8, 3) for x in range(8)]
        others = [joint for joint in others if joint not in set(paper)]
        for many, wanted in ((4000, ("leads", 585, 0)), (4001, "form")):
            value = (paper + tuple(others))[:many]
            self.assertEqual((len(value), len(set(value))), (many, many))
            check_returns(self, wanted, kept_error, n=8, one=line, other=(), value=value)

    def test_what_the_package_returned_elsewhere(self):
        others = [
            table(2, (IDLE,)), doubles(2, QUICK, ()), kept(2, (QUICK,), (QUICK,)), kept(3, (), (IDLE,)),
            (kept(2, (), (IDLE,)),), list(kept(2, (), (IDLE,))), table(3, (IDLE,) * 6),
        ]
        for value in others:
            check_returns(self, "form", kept_error, n=2, one=(), other=(IDLE,), value=value)
        check_returns(self, "form", kept_error, n=2, one=(IDLE,), other=(), value=kept(2, (), (IDLE,)))

    def test_form_is_told_ahead_of_begin_and_begin_ahead_of_the_rest(self):
        odd = ((), (0,), ((), ()))
        check_returns(self, "form", kept_error, n=2, one=(), other=(IDLE,), value=(odd, odd))
        check_returns(self, "form", kept_error, n=2, one=(), other=(IDLE,), value=(odd, ((), (2,), ((), ()))))
        check_returns(self, "begin", kept_error, n=2, one=(), other=(IDLE,), value=(odd,))
        check_returns(self, "begin", kept_error, n=2, one=(), other=(IDLE,), value=SMALL[1:] + (odd,))

    def test_of_one_triple_out_leads_ending(self):
        odd = ((), (0,), ((), ()))
        # By 0 this one leads away, by 1 unlike things come out.
        joint, begin = ((2,), (2,), ((), ())), told_begin((SECOND,), (IDLE,))
        found = [told_lead((SECOND,), (IDLE,), joint, x) for x in (0, 1)]
        self.assertEqual(found, [((0,), (0,), ((), ())), ((2,), (1,), ((1,), (2,)))])
        value = (joint, begin)
        check_returns(self, ("out", 0, 1), kept_error, n=3, one=(SECOND,), other=(IDLE,), value=value)
        # This one does not lead away, but its endings are unlike, too.
        check_returns(self, ("out", 0, 1), kept_error, n=2, one=(), other=(IDLE,), value=(odd,) + SMALL)
        check_returns(self, ("leads", 1, 0), kept_error, n=1, one=(), other=(IDLE, IDLE), value=(
            ((), (0, 0), ((0, 0), ())), ((), (0, None), ((), ())), ((), (None, None), ((), ()))))
        check_returns(self, ("ending", 0), kept_error, n=1, one=(), other=(IDLE,), value=(odd,) + SMALL[:2])

    def test_the_first_triple_is_told_first(self):
        odd, begin = ((), (0,), ((), ())), SMALL[0]
        check_returns(self, ("leads", 0, 0), kept_error, n=2, one=(), other=(IDLE,), value=(begin, odd))
        check_returns(self, ("out", 0, 1), kept_error, n=2, one=(), other=(IDLE,), value=(odd, begin))
        value = (SMALL[1], SMALL[0], odd)
        check_returns(self, ("leads", 0, 1), kept_error, n=2, one=(), other=(IDLE,), value=value)

    def test_the_promise(self):
        for draw, n, one, other in drawn_lines(185, 200, 4, 3):
            if kept_error(n, one, other, draw_paper(draw, n, one, other)) is None:
                self.assertIsNone(parted(n, one, other))
                row = draw_row(draw, n)
                self.assertEqual(told_whole(one, row), told_whole(other, row))


if __name__ == "__main__":
    unittest.main()
