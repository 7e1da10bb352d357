"""[A3], [L1] and [L2] of the document: keywords, names and tokens."""

import re
import string
import unittest

from baylines.errors import BadText
from baylines.lexing import KEYWORDS, is_name, tokens
from tests.drawn import chance
from tests.examples import check
from tests.values import check_error, check_returns, nested, no_strings

EXAMPLES = r"""
    >>> from baylines.lexing import is_name, tokens
    >>> [is_name(value) for value in ("a", "abcdefgh", "abcdefghi", "", "A", "a1", "of", "off", 5)]
    [True, True, False, False, False, False, False, True, False]
    >>> tokens("line x=2 *\ny;"), tokens("")
    ((('word', 'line', 0), ('word', 'x', 5), ('sign', '=', 6), ('number', '2', 7), ('sign', '*', 9), ('word', 'y', 11), ('sign', ';', 12)), ())
    >>> tokens("a 007")
    raises BadText(2)
    >>> tokens("a b_c")
    raises BadText(3)
    >>> tokens("abcdefghi 5000")
    raises BadText(0)
"""

WORDS = ("book", "common", "full", "kinds", "line", "none", "of", "only", "pairs", "ranks")

# A row of letters or figures is taken as long as it goes, and judged then.
ROW = re.compile(r"[a-z]+|[0-9]+|[;=>()*]|[ \n]+|.", re.DOTALL)
SORTS = (("word", r"[a-z]{1,8}"), ("number", r"0|[1-9][0-9]{0,2}"), ("sign", r"[;=>()*]"))


def told_tokens(text):
    """Return the list of tokens of text, and the first place that is none, None if there is none."""
    found = []
    for row in ROW.finditer(text):
        sorts = [sort for sort, pattern in SORTS if re.fullmatch(pattern, row.group())]
        if sorts:
            found.append((sorts[0], row.group(), row.start()))
        elif row.group().strip(" \n"):
            return found, row.start()
    return found, None


class Examples(unittest.TestCase):

    def test_as_they_stand_in_the_document(self):
        check(self, EXAMPLES)


class Keywords(unittest.TestCase):

    def test_they_are_just_these_ascending(self):
        self.assertEqual(repr(KEYWORDS), repr(WORDS))
        self.assertEqual(list(KEYWORDS), sorted(KEYWORDS))


class IsName(unittest.TestCase):

    def check(self, wanted, value):
        check_returns(self, wanted, is_name, value=value)

    def test_words_of_one_to_eight_letters(self):
        for letter in string.ascii_lowercase:
            for many in range(1, 9):
                self.check(True, letter * many)
            self.check(False, letter * 9)
            self.check(False, letter * 20000)
        self.check(False, "")

    def test_keywords(self):
        for word in WORDS:
            self.check(False, word)
            self.check(True, word[:-1])
            self.check(True, word + "x")
            self.check(False, word.upper())
            self.check(False, word + " ")

    def test_other_signs(self):
        for sign in set(string.printable[:95]) - set(string.ascii_lowercase) | {"\n"}:
            for value in (sign, "a" + sign, sign + "a", "a" + sign + "b"):
                self.check(False, value)

    def test_no_strings(self):
        for value in no_strings() + [nested(19), ("name",), ["a"], {"a": 1}]:
            self.check(False, value)


class Tokens(unittest.TestCase):

    def check(self, text):
        found, bad = told_tokens(text)
        if bad is None:
            check_returns(self, tuple(found), tokens, value=text)
        else:
            check_error(self, BadText(bad), tokens, value=text)
        return bad is None

    def test_no_token_at_all(self):
        for text in ("", " ", "\n", "  \n \n", " " * 20000):
            check_returns(self, (), tokens, value=text)

    def test_each_sign(self):
        for sign in ";=>()*":
            check_returns(self, (("sign", sign, 0),), tokens, value=sign)
            check_returns(self, (("sign", sign, 1), ("sign", sign, 2)), tokens, value=" " + sign * 2)

    def test_signs_that_begin_no_token(self):
        begin = set(string.ascii_lowercase + string.digits + ";=>()* ")
        for sign in sorted(set(string.printable[:95]) - begin):
            check_error(self, BadText(0), tokens, value=sign)
            check_error(self, BadText(3), tokens, value="ab " + sign + " 007")
            check_error(self, BadText(2), tokens, value="ab" + sign)
        check_error(self, BadText(1), tokens, value=" -1")
        check_error(self, BadText(0), tokens, value="Kinds a;")

    def test_words(self):
        for many in range(1, 9):
            check_returns(self, (("word", "z" * many, 1),), tokens, value="\n" + "z" * many)
        for many in (9, 10, 20000):
            check_error(self, BadText(0), tokens, value="z" * many)
        for word in WORDS:
            check_returns(self, (("word", word, 0),), tokens, value=word)
        check_returns(self, (("word", "ofnone", 0),), tokens, value="ofnone")

    def test_numbers(self):
        for number in ("0", "1", "9", "10", "99", "100", "999"):
            check_returns(self, (("number", number, 2),), tokens, value="  " + number + " ")
        for number in ("00", "01", "007", "0000", "1000", "9990", "123456789", "0" * 20000):
            check_error(self, BadText(2), tokens, value="  " + number)

    def test_nothing_need_stand_between(self):
        wanted = (
            ("word", "a", 0), ("number", "12", 1), ("word", "b", 3), ("sign", ">", 4), ("sign", "(", 5),
            ("number", "0", 6), ("sign", ")", 7), ("sign", "*", 8), ("word", "c", 9))
        check_returns(self, wanted, tokens, value="a12b>(0)*c")
        check_error(self, BadText(1), tokens, value="a0120b")

    def test_the_first_place_is_told(self):
        check_error(self, BadText(2), tokens, value="a 00 abcdefghi _")
        check_error(self, BadText(2), tokens, value="a abcdefghi 00 _")
        check_error(self, BadText(2), tokens, value="a _ 00 abcdefghi")

    def test_drawn_texts(self):
        draw = chance(401)
        right = 0
        for _ in range(600):
            parts = ["a", "of", "kinds", "abcdefgh", "0", "7", "12", "999", ";", "=", ">", "(", ")", "*", " ", "\n"]
            rare = ["abcdefghi", "1000", "01", "_", "A", "-"] if draw.random() < 0.5 else [" "]
            right += self.check("".join([draw.choice(parts + rare) for _ in range(draw.randint(0, 12))]))
        self.assertGreater(right, 100)
        self.assertLess(right, 500)

    def test_long_texts(self):
        self.assertTrue(self.check("a 1 ; " * 3333))
        self.assertFalse(self.check("a 1 ; " * 3332 + "!"))

    def test_no_strings(self):
        for value in no_strings():
            check_error(self, BadText(0), tokens, value=value)


if __name__ == "__main__":
    unittest.main()
