"""The examples of the document, and those of README.md."""

import doctest
import unittest

from keptways.base.lots import between, corners, do_cross, excesses, is_nested, lifted, lots, merged_row, weakest
from keptways.base.nets import Net
from keptways.base.words import is_integer, is_pair, is_word
from tests.samples import FULL, HUB, PAIR, RING, Case


class Examples(Case):

    def test_words(self):
        self.alike([is_word("dock"), is_word("Dock"), is_word(""), is_pair(("a", "b")), is_pair(("b", "a")), is_pair(("a", "a")),
                    is_integer(True)],
                   [True, False, False, True, False, False, False])

    def test_nets(self):
        self.alike([str(FULL), RING.near("a"), HUB.degrees, HUB.cut(("a", "z")), HUB.odd, HUB["z"], PAIR.tied("b", "a")],
                   ['4 places, 6 ties', ('b', 'e'), {'a': 4, 'b': 3, 'c': 3, 'z': 4}, 4, ('b', 'c'), {'a': 2, 'b': 1, 'c': 1}, 4])

    def test_a_net_that_is_read(self):
        path = Net.read("a b c", "a b 1", "b c 1")
        self.alike([path.lone_ties(), path.untied("a", "b").groups(), HUB.merged(("b", "c"), "m").ties, (path + path).ties,
                    (PAIR | path).lines],
                   [(('a', 'b'), ('b', 'c')), (('a',), ('b', 'c')), {('a', 'm'): 2, ('a', 'z'): 2, ('m', 'z'): 2},
                    {('a', 'b'): 2, ('b', 'c'): 2}, ('a b c', 'a b 4', 'b c 1')])

    def test_lots(self):
        self.alike([corners(RING, ("a", "b"), ("b", "c")), do_cross(RING, ("a", "b"), ("b", "c")),
                    excesses(RING, ("a", "b"), ("b", "c")), between(HUB, ("a", "b"), ("z",))],
                   [(('b',), ('a',), ('c',), ('d', 'e')), True, (0, 0), 3])
        self.alike([weakest(HUB), len([one for one in lots(FULL)]), merged_row(RING, (("a", "b"), ("d", "e"))).lines,
                    is_nested(FULL, (("a",), ("a", "b"))), lifted(FULL, ("a", "b"), 3)],
                   [(3, (('b',), ('c',))), 14, ('a c d', 'a c 1', 'a d 1', 'c d 1'), True, True])


def load_tests(_loader, tests, _pattern):
    tests.addTests(doctest.DocFileSuite("../README.md"))
    return tests


if __name__ == "__main__":
    unittest.main()
