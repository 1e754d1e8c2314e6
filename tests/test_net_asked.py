"""What a net tells: tied, degree, near, cut, groups, lone_ties."""

import unittest
from itertools import combinations

from keptways.base.nets import Net
from keptways.errors import InvalidLot, UnknownPlace
from tests.samples import (ALL, CROWD, DEEP, FULL, HUB, LOOSE, NINE, NO_PLACES, ONE, PAIR, RING, SIXTY, STRANGE, Case,
                           groups_by_walks, single_ties)


class Ties(Case):

    def test_tied(self):
        self.alike((HUB.tied("a", "z"), HUB.tied("z", "a"), HUB.tied("b", "z"), HUB.tied("a", "a")), (2, 2, 1, 0))
        self.alike((SIXTY.tied("pier", "dock"), RING.tied("a", "c"), ONE.tied("a", "a")), (60, 0, 0))
        for net in ALL:
            ties = single_ties(net)
            for one in net.places:
                for other in net.places:
                    self.alike(net.tied(one, other), ties.count((one, other)) + ties.count((other, one)))

    def test_degree(self):
        self.alike((HUB.degree("z"), ONE.degree("a"), SIXTY.degree("pier")), (4, 0, 60))
        for net in ALL:
            for place in net.places:
                self.alike(net.degree(place), sum(place in pair for pair in single_ties(net)))

    def test_near(self):
        self.alike((RING.near("a"), RING.near("c"), ONE.near("a"), SIXTY.near("pier")), (("b", "e"), ("b", "d"), (), ("dock",)))
        self.alike(CROWD.near("e"), ("a", "b", "c", "d", "f", "g", "h", "i"))
        for net in ALL:
            for place in net.places:
                near = {other for pair in net.ties if place in pair for other in pair if other != place}
                self.alike(net.near(place), tuple(sorted(near)))

    def test_unknown_places(self):
        for net in (FULL, ONE, SIXTY):
            known = net.places[0]
            for value in NO_PLACES:
                for call, given in ((net.tied, (value, known)), (net.tied, (known, value)), (net.degree, (value,)),
                                    (net.near, (value,))):
                    self.alike(self.refused(UnknownPlace, call, *given).asked, value)

    def test_the_first_unknown_place_is_told(self):
        self.alike(self.refused(UnknownPlace, FULL.tied, "q", "r").asked, "q")
        self.alike(self.refused(UnknownPlace, FULL.tied, DEEP, "q").asked, DEEP)
        self.alike(self.refused(UnknownPlace, FULL.tied, "q", "q").asked, "q")


class Cuts(Case):

    def test_cuts(self):
        self.alike((HUB.cut(("a", "z")), HUB.cut(("a", "b")), HUB.cut(("c",))), (4, 5, 3))
        self.alike((SIXTY.cut(("dock",)), SIXTY.cut(("dock", "pier")), ONE.cut(("a",))), (60, 0, 0))
        for net in ALL:
            self.alike((net.cut(()), net.cut(net.places)), (0, 0))

    def test_all_cuts(self):
        for net in ALL:
            ties = single_ties(net)
            for many in range(0, len(net) + 1, 1 if len(net) < 8 else 3):
                for lot in combinations(net.places, many):
                    self.alike(net.cut(lot), sum((one in lot) + (other in lot) == 1 for one, other in ties))

    def test_no_lots(self):
        for value in (*STRANGE, ("b", "a"), ("a", "a"), ("a", "q"), ("q",), ("a", "b", "b"), ("a", "c", "b"), ["a"], [], {"a": 1}, {},
                      "a", "ab", 1, FULL, ("a", None), (1,), ("a", ["b"]), (("a",), ("b",)), ("a",) * 5000, (FULL,)):
            self.refused(InvalidLot, FULL.cut, value)


class Groups(Case):

    def test_groups(self):
        self.alike(FULL.groups(), (("a", "b", "c", "d"),))
        self.alike((ONE.groups(), LOOSE.groups()), ((("a",),), (("a",), ("b",), ("c",))))
        self.alike(NINE.groups(), tuple([(place,) for place in NINE.places]))
        net = Net(("a", "b", "c", "d", "e", "f"), {("a", "f"): 1, ("b", "d"): 3, ("c", "f"): 2})
        self.alike(net.groups(), (("a", "c", "f"), ("b", "d"), ("e",)))
        chain = Net(("a", "b", "c", "d", "e"), {("a", "e"): 1, ("b", "c"): 1, ("b", "d"): 1, ("c", "e"): 1})
        self.alike(chain.groups(), (("a", "b", "c", "d", "e"),))

    def test_groups_by_walks(self):
        for net in ALL:
            self.alike(net.groups(), groups_by_walks(net.places, list(net.ties)))

    def test_lone_ties(self):
        self.alike((FULL.lone_ties(), RING.lone_ties(), PAIR.lone_ties(), ONE.lone_ties(), NINE.lone_ties()), ((),) * 5)
        self.alike(Net(("a", "b"), {("a", "b"): 1}).lone_ties(), (("a", "b"),))
        self.alike(Net(("a", "b", "c"), {("a", "b"): 2, ("b", "c"): 1}).lone_ties(), (("b", "c"),))
        self.alike(RING.untied("a", "e").lone_ties(), (("a", "b"), ("b", "c"), ("c", "d"), ("d", "e")))
        net = RING.with_place("x").with_place("y").joined("y", "x").with_place("z").joined("z", "a")
        self.alike(net.lone_ties(), (("a", "z"), ("x", "y")))

    def test_lone_ties_by_walks(self):
        found = 0
        for net in ALL:
            many = len(groups_by_walks(net.places, list(net.ties)))
            lone = tuple([pair for pair in net.ties if net.ties[pair] == 1
                          and len(groups_by_walks(net.places, [other for other in net.ties if other != pair])) > many])
            self.alike(net.lone_ties(), lone)
            found += len(lone)
        self.assertGreater(found, 20)


if __name__ == "__main__":
    unittest.main()
