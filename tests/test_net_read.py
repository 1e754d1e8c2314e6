"""Net.read(*lines)."""

import unittest

from keptways.base.nets import Net
from keptways.errors import InvalidNet, ParseError
from tests.samples import ALL, LOOSE, LONG_TEXT, NINE, ONE, PAIR, SIXTY, STRANGE, Case

NO_STRINGS = [value for value in STRANGE if not isinstance(value, str)] + [0, 1, (), ("a b",), ["a b"], {}, PAIR]


class Read(Case):

    def wrong(self, index, *lines):
        self.alike(self.refused(ParseError, Net.read, *lines).line, index)

    def test_lines_of_nets(self):
        self.assertTrue(Net.read("a") == ONE)
        self.assertTrue(Net.read("a b c") == LOOSE)
        self.assertTrue(Net.read("a b c d e f g h i") == NINE)
        self.assertTrue(Net.read("dock pier", "dock pier 60") == SIXTY)
        net = Net.read("a ab b", "a ab 10", "a b 3", "ab b 9")
        self.alike((net.places, net.ties), (("a", "ab", "b"), {("a", "ab"): 10, ("a", "b"): 3, ("ab", "b"): 9}))

    def test_read_takes_back_lines(self):
        for net in ALL:
            self.assertTrue(Net.read(*net.lines) == net)
            self.assertIs(type(Net.read(*net.lines)), Net)

    def test_it_is_called_off_a_net_too(self):
        self.assertTrue(PAIR.read("a b c") == LOOSE)

    def test_no_lines(self):
        self.wrong(0)

    def test_lines_that_are_no_strings(self):
        for value in NO_STRINGS:
            self.wrong(0, value)
            self.wrong(0, value, value)
            self.wrong(1, "a b", value)
            self.wrong(2, "a b c", "a b 1", value)

    def test_wrong_first_lines(self):
        for line in ("", " ", "a  b", " a", "a ", "a\n", "a\nb", "a b\n", "\n", "A", "a B", "a b2", "2", "a b 2", "a,b", "wordwords",
                     "a wordwords", "b a", "a c b", "a a", "a b b", "aa a", "-", LONG_TEXT, "a" * 9000, " " * 9000):
            self.wrong(0, line)
            self.wrong(0, line, "oops")

    def test_wrong_further_lines(self):
        for line in ("", " ", "a", "a b", "a b ", "a b 1 ", " a b 1", "a  b 1", "a b  1", "a b 1\n", "\na b 1", "a b\n1", "a b c", "a b 1 1",
                     "a b 1 c", "b a 1", "a a 1", "A b 1", "a B 1", "a wordwords 1", "a 1 b", "1 a b", "a,b,1", "a b one", LONG_TEXT):
            self.wrong(1, "a b c", line)
            self.wrong(2, "a b c", "a b 1", line)

    def test_numbers(self):
        for many in range(1, 61):
            self.alike(Net.read("a b", f"a b {many}").ties, {("a", "b"): many})
        for many in range(61, 100):
            self.refused(InvalidNet, Net.read, "a b", f"a b {many}")
        for text in ("0", "00", "01", "001", "09", "099", "060", "100", "101", "999", "1000", "-1", "+1", "-0", "1.0", "1_0", "1e1",
                     "0x1", "", "x", "True", "None", "9" * 60, "1" * 8000):
            self.wrong(1, "a b", f"a b {text}")

    def test_lines_twice_and_out_of_order(self):
        self.wrong(2, "a b c", "a b 1", "a b 1")
        self.wrong(2, "a b c", "a b 1", "a b 2")
        self.wrong(2, "a b c", "a c 1", "a b 1")
        self.wrong(2, "a b c", "b c 1", "a c 1")
        self.wrong(3, "a b c", "a b 1", "b c 1", "a c 1")
        self.wrong(3, "a b c", "a b 1", "b c 1", "b c 1")
        self.wrong(2, "a b c d", "b c 5", "a d 9", "a b 1")

    def test_the_first_wrong_line_is_told(self):
        self.wrong(0, "b a", "oops", 5)
        self.wrong(1, "a b", "oops", 5)
        self.wrong(2, "a b c", "a c 1", "a b 1", "oops")
        self.wrong(2, "a b c", "a c 1", "oops", "a b 1")
        self.wrong(1, "a b c", "a b 0", "a b 1", "a b 1")

    def test_lines_that_make_no_net(self):
        self.refused(InvalidNet, Net.read, "a b c d e f g h i j")
        self.refused(InvalidNet, Net.read, " ".join(sorted([one + other for one in "abcdefghij" for other in "abcdefghij"])))
        self.refused(InvalidNet, Net.read, "a b", "a c 1")
        self.refused(InvalidNet, Net.read, "a b", "x y 1")
        self.refused(InvalidNet, Net.read, "b c", "a b 1", "b c 1")
        self.refused(InvalidNet, Net.read, "a b c", "a b 30", "a c 31")

    def test_a_wrong_line_comes_ahead_of_what_makes_no_net(self):
        self.wrong(1, "a b c d e f g h i j", "a b 0")
        self.wrong(2, "a b", "a c 1", "oops")
        self.wrong(3, "a b c", "a b 99", "a c 99", "a c 99")
        self.wrong(2, "a b", "x y 1", "a b 1")


if __name__ == "__main__":
    unittest.main()
