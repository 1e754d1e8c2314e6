"""Class Ways: what is between two places."""

import operator
import unittest

from keptways.base.nets import Net
from keptways.errors import InvalidNet, InvalidOperation, UnknownPlace
from keptways.ways.flows import Ways, farthest_lot, least_lots, nearest_lot, number
from tests import looks
from tests.samples import ALL, CROWD, FULL, HUB, LOOSE, NO_LOTS, NO_NETS, NO_PLACES, ONE, PAIR, RING, SIXTY, SMALL, STRANGE, Case


def told(ways):
    """All that an object tells of itself."""
    return (ways.net.lines, ways.tips, ways.total, ways.shown, ways.nearest, ways.farthest, str(ways))


class Told(Case):

    def test_properties(self):
        for net in SMALL[:60]:
            for one, other in net.pairs:
                for start, end in ((one, other), (other, one)):
                    ways = Ways(net, start, end)
                    self.assertTrue(ways.net == net)
                    self.alike((ways.tips, ways.total), ((start, end), looks.number(net, start, end)))
                    self.assertTrue(looks.right_family(net, start, end, ways.shown))
                    self.alike(len(ways.shown), ways.total)
                    self.alike((ways.nearest, ways.farthest), (nearest_lot(net, start, end), farthest_lot(net, start, end)))

    def test_refused(self):
        for value in NO_NETS:
            self.refused(InvalidNet, Ways, value, "q", "q")
        for value in NO_PLACES:
            self.alike(self.refused(UnknownPlace, Ways, FULL, value, "q").asked, value)
            self.alike(self.refused(UnknownPlace, Ways, FULL, "a", value).asked, value)
        self.alike(self.refused(UnknownPlace, Ways, FULL, "a", "a").asked, "a")
        self.alike(self.refused(UnknownPlace, Ways, ONE, "a", "a").asked, "a")

    def test_signs(self):
        for net in (RING, HUB, SIXTY, LOOSE, CROWD):
            one, other = net.places[:2]
            ways = Ways(net, one, other)
            self.alike((len(ways), tuple(ways), [way for way in ways]), (ways.total, ways.shown, list(ways.shown)))
        self.alike([str(Ways(RING, "a", "c")), str(Ways(LOOSE, "c", "a")), str(Ways(SIXTY, "pier", "dock")),
                    str(Ways(Net(("a", "b"), {("a", "b"): 1}), "a", "b"))],
                   ["a to c, 2 ways", "c to a, 0 ways", "pier to dock, 60 ways", "a to b, 1 ways"])

    def test_in(self):
        for net in SMALL[:40]:
            for pair in net.pairs:
                ways = Ways(net, *pair)
                least = looks.least_lots(net, *pair)
                for lot in looks.all_lots(net.places):
                    self.assertIs(lot in ways, lot in least)
                    self.assertIs(list(lot) in ways, False)
        ways = Ways(RING, "a", "c")
        for value in (*NO_LOTS, (), RING.places, ("c",), ways):
            if value != ("a",):
                self.assertIs(value in ways, False)

    def test_equal(self):
        ways = Ways(RING, "a", "c")
        same = Ways(Net(RING.places, RING.ties), "a", "c")
        self.assertIs(ways == same, True)
        self.assertIs(ways != same, False)
        for value in (*STRANGE, 2, 0, (), ways.shown, ways.tips, RING, str(ways), Ways(RING, "c", "a"), Ways(RING, "a", "d"),
                      Ways(RING.joined("a", "b"), "a", "c"), Ways(FULL, "a", "c"), (ways,), [ways]):
            self.assertIs(ways == value, False)
            self.assertIs(value == ways, False)
            self.assertIs(ways != value, True)


class Made(Case):

    def test_turned(self):
        for net in SMALL[:40]:
            for one, other in net.pairs:
                ways = Ways(net, one, other)
                turned = ways.turned()
                self.assertIs(type(turned), Ways)
                self.assertTrue(turned == Ways(net, other, one))
                self.alike((turned.tips, turned.total), ((other, one), ways.total))
                outside = sorted(tuple(place for place in net.places if place not in lot) for lot in least_lots(net, one, other))
                self.alike(least_lots(net, other, one), tuple(outside))
                self.assertEqual({*turned.nearest}, {*net.places} - {*ways.farthest})
                self.assertEqual({*turned.farthest}, {*net.places} - {*ways.nearest})
                self.assertTrue(turned.turned() == ways)

    def test_behind(self):
        for net in SMALL[:30]:
            for pair in net.pairs:
                ways = Ways(net, *pair)
                before = told(ways)
                for one in net.places:
                    for other in net.places:
                        if net.tied(one, other):
                            behind = ways.behind(one, other)
                            self.assertTrue(behind == Ways(net.untied(one, other), *pair))
                            self.assertIs(ways.is_needed(one, other), behind.total < ways.total)
                        else:
                            self.refused(InvalidOperation, ways.behind, one, other)
                            self.assertIs(ways.is_needed(one, other), False)
                        uses = [way for way in ways if any({*way[at:at + 2]} == {one, other} for at in range(len(way) - 1))]
                        self.alike(ways.uses(one, other), len(uses) if one != other else 0)
                self.alike(told(ways), before)

    def test_uses(self):
        ways = Ways(PAIR, "a", "b")
        self.alike((ways.uses("a", "b"), ways.uses("b", "a"), ways.uses("a", "a")), (4, 4, 0))
        self.alike([Ways(RING, "a", "c").uses(*pair) for pair in RING.ties], [1] * 5)
        self.alike(Ways(LOOSE, "a", "b").uses("a", "b"), 0)

    def test_is_needed(self):
        ways = Ways(HUB, "b", "z")
        self.alike([ways.is_needed(*pair) for pair in HUB.ties], [number(HUB.untied(*pair), "b", "z") < 3 for pair in HUB.ties])
        self.assertIs(ways.is_needed("z", "z"), False)
        self.assertIs(Ways(SIXTY, "dock", "pier").is_needed("pier", "dock"), True)

    def test_unknown_places(self):
        for net in (FULL, LOOSE):
            ways = Ways(net, "a", "b")
            for call in (ways.behind, ways.uses, ways.is_needed):
                for value in NO_PLACES:
                    self.alike(self.refused(UnknownPlace, call, value, "a").asked, value)
                    self.alike(self.refused(UnknownPlace, call, "a", value).asked, value)
                self.alike(self.refused(UnknownPlace, call, "q", "r").asked, "q")

    def test_never_changes(self):
        ways = Ways(HUB, "a", "z")
        before = told(ways)
        for name in ("net", "tips", "total", "shown", "nearest", "farthest"):
            with self.assertRaises(AttributeError):
                setattr(ways, name, 1)
        with self.assertRaises(TypeError):
            operator.setitem(ways, 0, 1)
        self.alike(told(ways), before)

    def test_all_pairs_of_great_nets(self):
        for net in (CROWD, *[net for net in ALL if len(net) == 9][:4]):
            for pair in net.pairs:
                ways = Ways(net, *pair)
                self.assertTrue(looks.right_family(net, *pair, ways.shown))
                self.alike((ways.total, net.cut(ways.nearest), net.cut(ways.farthest)), (len(ways),) * 3)


if __name__ == "__main__":
    unittest.main()
