"""Class Needs."""

import operator
import unittest

from keptways.base.nets import Net
from keptways.errors import InvalidLot, InvalidNet, UnknownPlace
from keptways.ways.tight import Needs, narrow_lots, tight_lots
from tests import looks
from tests.samples import ALL, CROWD, FULL, HUB, LOOSE, NO_LOTS, NO_NETS, NO_PLACES, ONE, PAIR, RING, SMALL, STRANGE, Case


class Told(Case):

    def test_properties(self):
        for net in SMALL[:60]:
            for place in net.places:
                needs = Needs(net, place)
                self.assertTrue(needs.net == net)
                self.alike((needs.place, needs.numbers), (place, looks.beside(net, place)))
                self.alike((needs.tight, needs.narrow), (tight_lots(net, place), narrow_lots(net, place)))

    def test_needs_of_lots(self):
        for net in SMALL[:40]:
            for place in net.places:
                needs, told = Needs(net, place), looks.beside(net, place)
                for lot in looks.all_lots(looks.others(net, place)):
                    self.alike((needs.of(lot), needs.spare_of(lot)),
                               (looks.need(told, lot), looks.cut(net, lot) - looks.need(told, lot)))
        needs = Needs(FULL, "d")
        for value in (*NO_LOTS, ("d",), ("a", "d"), FULL.places):
            self.refused(InvalidLot, needs.of, value)
            self.refused(InvalidLot, needs.spare_of, value)

    def test_kept_by(self):
        needs = Needs(HUB, "z")
        self.assertIs(needs.kept_by(HUB), True)
        self.assertIs(needs.kept_by(HUB.untied("z", "a")), True)
        self.assertIs(needs.kept_by(HUB.untied("a", "b")), False)
        self.assertIs(needs.kept_by(Net(("a", "b", "c"), {("a", "b"): 2, ("a", "c"): 2, ("b", "c"): 1})), True)
        self.assertIs(needs.kept_by(Net(("a", "b", "c", "x"), {("a", "b"): 2, ("a", "c"): 1, ("b", "c"): 1})), False)
        self.assertIs(needs.kept_by(HUB.joined("a", "b", 30)), True)
        for net in SMALL[:40]:
            for place in net.places:
                needs, told = Needs(net, place), looks.beside(net, place)
                for other in [net.untied(*pair) for pair in net.ties] + [net.joined(*pair) for pair in net.pairs]:
                    after = looks.numbers(other)
                    self.assertIs(needs.kept_by(other), all(after[pair] >= told[pair] for pair in told))
        self.assertIs(Needs(ONE, "a").kept_by(PAIR), True)
        self.assertIs(Needs(ONE, "a").kept_by(Net(("q",))), True)

    def test_kept_by_no_net(self):
        for value in (*NO_NETS, PAIR, LOOSE.without_place("a"), RING.without_place("b"), Net(("z",))):
            self.refused(InvalidNet, Needs(HUB, "z").kept_by, value)
        for value in NO_NETS:
            self.refused(InvalidNet, Needs(ONE, "a").kept_by, value)

    def test_refused(self):
        for value in NO_NETS:
            self.refused(InvalidNet, Needs, value, "q")
        for value in NO_PLACES:
            self.alike(self.refused(UnknownPlace, Needs, FULL, value).asked, value)
            self.alike(self.refused(UnknownPlace, Needs, ONE, value).asked, value)


class Signs(Case):

    def test_in(self):
        for net in SMALL[:40]:
            for place in net.places:
                needs = Needs(net, place)
                for lot in looks.all_lots(net.places):
                    self.assertIs(lot in needs, lot in needs.tight)
                    self.assertIs(list(lot) in needs, False)
        for value in (*STRANGE, 5, (), "b", ["b"], HUB, ("z",), ("b", "z")):
            self.assertIs(value in Needs(HUB, "z"), False)
        self.assertIs(("b",) in Needs(HUB, "z"), True)

    def test_len_and_text(self):
        self.alike((len(Needs(HUB, "z")), str(Needs(HUB, "z"))), (2, "beside z: 2 tight lots, 4 narrow"))
        self.alike((len(Needs(ONE, "a")), str(Needs(ONE, "a"))), (0, "beside a: 0 tight lots, 0 narrow"))
        for net in (*ALL[:30], CROWD):
            for place in net.places[:3]:
                needs = Needs(net, place)
                self.alike(len(needs), len(needs.tight))
                self.alike(str(needs), f"beside {place}: {len(needs.tight)} tight lots, {len(needs.narrow)} narrow")

    def test_no_iteration(self):
        for call in (iter, list, lambda needs: [one for one in needs]):
            with self.assertRaises(TypeError):
                call(Needs(HUB, "z"))

    def test_equal(self):
        needs = Needs(HUB, "z")
        self.assertIs(needs == Needs(Net(HUB.places, HUB.ties), "z"), True)
        self.assertIs(needs != Needs(HUB, "z"), False)
        for value in (*STRANGE, 2, (), HUB, "z", needs.tight, Needs(HUB, "a"), Needs(HUB.joined("a", "b"), "z"), str(needs)):
            self.assertIs(needs == value, False)
            self.assertIs(value == needs, False)
            self.assertIs(needs != value, True)

    def test_never_changes(self):
        needs = Needs(HUB, "z")
        needs.numbers.clear()
        needs.numbers["a", "b"] = 7
        self.alike(needs.numbers, {("a", "b"): 3, ("a", "c"): 3, ("b", "c"): 3})
        for name in ("net", "place", "numbers", "tight", "narrow"):
            with self.assertRaises(AttributeError):
                setattr(needs, name, 1)
        with self.assertRaises(TypeError):
            operator.getitem(needs, 0)


if __name__ == "__main__":
    unittest.main()
