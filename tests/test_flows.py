"""Numbers of ways: number, family, least lots, papers."""

import unittest

from keptways.base.nets import Net
from keptways.errors import InvalidNet, InvalidNumber, NoWay, UnknownPlace
from keptways.ways.flows import (family, farthest_lot, is_family, is_number_paper, least_lots, most_apart, nearest_lot, number,
                                 number_paper)
from tests import looks
from tests.samples import (ALL, CROWD, FULL, HUB, LOOSE, NINE, NO_NETS, NO_NUMBERS, NO_PLACES, ONE, PAIR, RING, SIXTY, SMALL,
                           STRANGE, Case)

CALLS = ((number, ()), (family, ()), (is_family, ((),)), (is_family, (None,)), (nearest_lot, ()), (farthest_lot, ()),
         (least_lots, ()), (number_paper, ()), (is_number_paper, (None,)), (most_apart, (0,)), (most_apart, (None,)))
# The ways of a to d go over both other places; one of them can be used twice.
LADDER = Net(("a", "b", "c", "d"), {("a", "b"): 2, ("a", "c"): 1, ("b", "c"): 1, ("b", "d"): 1, ("c", "d"): 2})


def directed(net):
    """All pairs of different places, in both orders."""
    return [(one, other) for one in net.places for other in net.places if one != other]


class Numbers(Case):

    def test_numbers(self):
        self.alike((number(PAIR, "a", "b"), number(SIXTY, "pier", "dock"), number(LOOSE, "a", "c"), number(FULL, "d", "a")),
                   (4, 60, 0, 3))
        self.alike((number(HUB, "a", "z"), number(HUB, "a", "b"), number(RING, "a", "c"), number(LADDER, "a", "d")), (4, 3, 2, 3))
        for net in SMALL:
            for one, other in directed(net):
                self.alike(number(net, one, other), looks.number(net, one, other))

    def test_numbers_are_the_same_both_ways(self):
        for net in ALL:
            for one, other in net.pairs:
                self.alike(number(net, one, other), number(net, other, one))

    def test_true_sentences_on_numbers(self):
        for net in ALL[:30]:
            told = {(one, other): number(net, one, other) for one, other in directed(net)}
            for one, other in told:
                self.assertLessEqual(told[one, other], min(net.degree(one), net.degree(other)))
                for third in net.places:
                    if third not in (one, other):
                        low, middle, _ = sorted((told[one, other], told[one, third], told[third, other]))
                        self.assertEqual(low, middle)

    def test_one_tie_more(self):
        for net in SMALL[:20]:
            for pair in net.pairs:
                if net.size < 60:
                    more = net.joined(*pair)
                    for one, other in net.pairs:
                        self.assertIn(number(more, one, other) - number(net, one, other), (0, 1))
                    self.assertEqual(number(more, *pair), number(net, *pair) + 1)

    def test_least_lots(self):
        self.alike(least_lots(RING, "a", "c"), looks.least_lots(RING, "a", "c"))
        self.alike((nearest_lot(RING, "a", "c"), farthest_lot(RING, "a", "c")), (("a",), ("a", "b", "d", "e")))
        self.alike((least_lots(SIXTY, "pier", "dock"), least_lots(PAIR, "a", "b")), ((("pier",),), (("a",),)))
        for net in SMALL[:60]:
            for one, other in directed(net):
                least = looks.least_lots(net, one, other)
                self.alike(least_lots(net, one, other), least)
                self.alike(nearest_lot(net, one, other), min(least, key=len))
                self.alike(farthest_lot(net, one, other), max(least, key=len))

    def test_nearest_and_farthest_lots_of_great_nets(self):
        for net in (CROWD, NINE, *ALL[9:30]):
            for one, other in net.pairs:
                least = least_lots(net, one, other)
                self.assertEqual({net.cut(lot) for lot in least}, {number(net, one, other)})
                self.assertEqual({*nearest_lot(net, one, other)}, set.intersection(*[{*lot} for lot in least]))
                self.assertEqual({*farthest_lot(net, one, other)}, set.union(*[{*lot} for lot in least]))


class Families(Case):

    def test_families(self):
        for net in ALL:
            for one, other in directed(net):
                ways = family(net, one, other)
                self.assertTrue(looks.right_family(net, one, other, ways))
                self.assertIs(is_family(net, one, other, ways), True)
                self.assertEqual(len(ways), number(net, one, other))

    def test_told_families(self):
        self.alike(family(PAIR, "b", "a"), (("b", "a"),) * 4)
        self.alike(family(LOOSE, "a", "b"), ())
        self.alike(sorted(family(RING, "a", "c")), [("a", "b", "c"), ("a", "e", "d", "c")])
        self.alike(family(SIXTY, "dock", "pier"), (("dock", "pier"),) * 60)

    def test_a_shortest_way_that_bars_others(self):
        # The way over b and c is the shortest one, but no two ways apart have it.
        net = Net(tuple("abcdpqxy"), looks.counted([("a", "b"), ("b", "c"), ("c", "d"), ("b", "x"), ("x", "y"), ("y", "d"), ("a", "p"),
                                                    ("p", "q"), ("q", "c")]))
        self.alike(sorted(family(net, "a", "d")), [("a", "b", "x", "y", "d"), ("a", "p", "q", "c", "d")])
        self.alike(sorted(family(net, "d", "a")), [("d", "c", "q", "p", "a"), ("d", "y", "x", "b", "a")])
        twice = net + net
        for one, other in directed(twice):
            ways = family(twice, one, other)
            self.assertTrue(looks.right_family(twice, one, other, ways))
            self.assertEqual(len(ways), 2 * number(net, one, other))

    def test_families_of_any_size(self):
        for ways in ((), (("a", "d"),), (("a", "b", "d"), ("a", "c", "d"), ("a", "d")), (("a", "c", "b", "d"), ("a", "d"))):
            self.assertIs(is_family(FULL, "a", "d", ways), True)
        self.assertIs(is_family(PAIR, "a", "b", (("a", "b"),) * 3), True)
        self.assertIs(is_family(LADDER, "a", "d", (("a", "b", "d"), ("a", "b", "c", "d"), ("a", "c", "d"))), True)

    def test_no_families(self):
        for ways in ((("d", "a"),), (("a", "d"), ("a", "d")), (("a", "b", "d"), ("a", "c", "b", "d")), (("a",),), ((),),
                     (("a", "b", "a", "d"),), (("a", "b", "c"),), [("a", "d")], (["a", "d"],), ("a", "d"), (("a", "q", "d"),),
                     (("a", "d", "b"),), (("a", "b", "c", "b", "d"),), (("a", "b"),), ("ad",), {("a", "d"): 1}):
            self.assertIs(is_family(FULL, "a", "d", ways), False)
        self.assertIs(is_family(PAIR, "a", "b", (("a", "b"),) * 5), False)
        for way in (("a", "b", "a", "c", "d"), ("a", "c", "d", "c", "b", "d"), ("a", "b", "d", "c", "d")):
            self.assertIs(is_family(LADDER.joined("a", "c"), "a", "d", (way,)), False)
        self.assertIs(is_family(RING, "a", "c", (("a", "c"),)), False)
        self.assertIs(is_family(FULL, "a", "b", (("a", "c", "d", "b"), ("a", "d", "c", "b"))), False)
        for value in STRANGE:
            self.assertIs(is_family(FULL, "a", "d", value), False)
            self.assertIs(is_family(FULL, "a", "d", (value,)), False)
            self.assertIs(is_family(FULL, "a", "d", (("a", value, "d"),)), False)

    def test_bent_families(self):
        for net, one, other in ((FULL, "a", "d"), (HUB, "z", "a"), (LADDER, "a", "d"), (RING, "e", "b"), (PAIR, "a", "b")):
            for bent in looks.bends(family(net, one, other)):
                self.assertIs(is_family(net, one, other, bent), looks.right_family(net, one, other, bent), bent)

    def test_most_apart(self):
        for net in ALL[:20]:
            for one, other in net.pairs:
                most = number(net, one, other)
                for many in range(most + 1):
                    ways = most_apart(net, one, other, many)
                    self.assertEqual(len(ways), many)
                    self.assertTrue(looks.right_family(net, one, other, ways))
                for many in (most + 1, 10 ** 60 - 1):
                    self.alike(self.refused(NoWay, most_apart, net, one, other, many).ends, many)

    def test_most_apart_refused(self):
        for value in NO_NUMBERS:
            self.alike(self.refused(InvalidNumber, most_apart, FULL, "a", "b", value).number, value)


class Papers(Case):

    def test_papers(self):
        for net in ALL:
            for one, other in directed(net)[:20]:
                paper = number_paper(net, one, other)
                self.assertIs(is_number_paper(net, one, other, paper), True)
                ways, lot = paper
                self.assertTrue(looks.right_family(net, one, other, ways))
                self.assertIn(lot, looks.parting(net, one, other))
                self.assertEqual((len(ways), looks.cut(net, lot)), (number(net, one, other),) * 2)

    def test_papers_that_are_made_otherwise(self):
        ways = (("a", "e", "d", "c"), ("a", "b", "c"))
        for lot in least_lots(RING, "a", "c"):
            self.assertIs(is_number_paper(RING, "a", "c", (ways, lot)), True)
            self.assertIs(is_number_paper(RING, "a", "c", (ways[::-1], lot)), True)
            self.assertIs(is_number_paper(RING, "a", "c", (ways[:1], lot)), False)
        self.assertIs(is_number_paper(RING, "a", "c", (ways, ("a", "d"))), False)
        self.assertIs(is_number_paper(LOOSE, "a", "c", ((), ("a", "b"))), True)
        self.assertIs(is_number_paper(LOOSE, "a", "c", ((), ())), False)
        self.assertIs(is_number_paper(LOOSE, "a", "c", ((), LOOSE.places)), False)

    def test_bent_papers(self):
        for net, one, other in ((FULL, "a", "d"), (HUB, "z", "a"), (LADDER, "d", "a")):
            for bent in looks.bends(number_paper(net, one, other)):
                told = (isinstance(bent, tuple) and len(bent) == 2 and looks.right_family(net, one, other, bent[0])
                        and looks.right_lot(net.places, bent[1]) and one in bent[1] and other not in bent[1]
                        and looks.cut(net, bent[1]) == len(bent[0]))
                self.assertIs(is_number_paper(net, one, other, bent), told, bent)
        for value in STRANGE:
            self.assertIs(is_number_paper(FULL, "a", "b", value), False)
            self.assertIs(is_number_paper(FULL, "a", "b", (value, ("a",))), False)
            self.assertIs(is_number_paper(FULL, "a", "b", (family(FULL, "a", "b"), value)), False)


class Refused(Case):

    def test_no_nets(self):
        for value in NO_NETS:
            for call, rest in CALLS:
                self.refused(InvalidNet, call, value, "q", "q", *rest)

    def test_unknown_places(self):
        for net in (FULL, ONE):
            for value in NO_PLACES:
                for call, rest in CALLS:
                    self.alike(self.refused(UnknownPlace, call, net, value, None, *rest).asked, value)
                    self.alike(self.refused(UnknownPlace, call, net, "a", value, *rest).asked, value)

    def test_a_place_and_itself(self):
        for net in (FULL, ONE):
            for call, rest in CALLS:
                self.alike(self.refused(UnknownPlace, call, net, "a", "a", *rest).asked, "a")


if __name__ == "__main__":
    unittest.main()
