"""[0.1], [0.7] and the functions of keptways.base.words."""

import unittest

from keptways.base.words import MAX_LETTERS, is_integer, is_pair, is_word
from keptways.errors import InvalidWord
from tests.samples import DEEP, HUB, LONG_TEXT, Case

NO_STRINGS = (None, True, False, 0, 1, -1, 10 ** 60, 10 ** 99, (), ("a",), ("a", "b"), ["a"], [], {}, {"a": 1}, DEEP, HUB,
              InvalidWord("a"))
NEAR_LETTERS = ("`", "{", "@", "[", "A", "Z", "M", "0", "1", "9", " ", "\n", "-", "_", ".", "~", "!")


class Integers(Case):

    def test_integers(self):
        for value in (0, 1, -1, 60, 12345, 10 ** 59, 10 ** 60 - 1, -(10 ** 59), -(10 ** 60 - 1)):
            self.assertIs(is_integer(value), True, value)

    def test_more_than_sixty_digits(self):
        for value in (10 ** 60, 10 ** 60 + 1, 10 ** 99, -(10 ** 60), -(10 ** 99)):
            self.assertIs(is_integer(value), False, value)

    def test_no_integers(self):
        for value in (True, False, None, "1", "", (1,), [1], {1: 1}, (), [], {}, DEEP, HUB, InvalidWord("a")):
            self.assertIs(is_integer(value), False, value)


class Words(Case):

    def test_the_greatest_length(self):
        self.alike(MAX_LETTERS, 8)

    def test_words(self):
        for value in ("a", "z", "ab", "zz", "dock", "sevenxx", "eightxyz", "abcdefgh", "ijklmnop", "qrstuvwx", "yz"):
            self.assertIs(is_word(value), True, value)

    def test_lengths(self):
        for many in range(30):
            self.assertIs(is_word("q" * many), 1 <= many <= 8, many)
        self.assertIs(is_word("q" * 9000), False)

    def test_other_signs(self):
        for sign in NEAR_LETTERS:
            for value in (sign, "a" + sign, sign + "a", "ab" + sign + "cd", "abcdefg" + sign):
                self.assertIs(is_word(value), False, value)

    def test_no_strings(self):
        for value in (*NO_STRINGS, LONG_TEXT):
            self.assertIs(is_word(value), False, value)


class Pairs(Case):

    def test_pairs(self):
        for value in (("a", "b"), ("a", "z"), ("a", "aa"), ("dock", "pier"), ("abcdefgh", "abcdefgi"), ("ab", "b")):
            self.assertIs(is_pair(value), True, value)

    def test_out_of_order_and_equal(self):
        for value in (("b", "a"), ("aa", "a"), ("pier", "dock"), ("a", "a"), ("dock", "dock"), ("b", "ab")):
            self.assertIs(is_pair(value), False, value)

    def test_other_lengths(self):
        for value in ((), ("a",), ("a", "b", "c"), ("a", "b", ""), ("a", "b", None), ("a",) * 5000):
            self.assertIs(is_pair(value), False, value)

    def test_no_words(self):
        for value in (*NO_STRINGS, "", "A", "toolongxy", "b\n", " b", "b1"):
            self.assertIs(is_pair((value, "z")), False, value)
            self.assertIs(is_pair(("a", value)), False, value)
            self.assertIs(is_pair((value, value)), False, value)

    def test_no_tuples(self):
        for value in (*[value for value in NO_STRINGS if value != ("a", "b")], "ab", "a b", ["a", "b"], {"a": "b", "b": "c"}):
            self.assertIs(is_pair(value), False, value)


if __name__ == "__main__":
    unittest.main()
