"""Class Wants."""

import operator
import unittest

from keptways.base.nets import Net
from keptways.errors import InvalidNet, InvalidNumber, InvalidOperation, InvalidRow, UnknownPlace
from keptways.more.wants import Wants, fewest_for
from tests import looks, looks_new
from tests.samples import CROWD, FULL, LOOSE, NINE, NO_NETS, NO_NUMBERS, NO_PLACES, ONE, PAIR, RING, SMALL, STRANGE, Case
from tests.test_wants import NO_WANTS, THREE, TWICE, drawn_wants

FOURS = {pair: 4 if pair == ("a", "b") else 3 for pair in FULL.pairs}


def made():
    return Wants(TWICE, dict(reversed(THREE.items())))


class Told(Case):

    def test_properties(self):
        wants = Wants(FULL, FOURS)
        self.assertTrue(wants.net == FULL)
        self.alike((wants.table, wants.fewest, wants.short), (FOURS, 1, (("a",), ("a", "c", "d"), ("b",), ("b", "c", "d"))))
        self.alike((made().table, made().fewest, made().short), (THREE, 1, (("a",), ("a", "b"), ("b", "c"), ("c",))))
        self.alike((Wants(ONE, {}).table, Wants(ONE, {}).fewest, Wants(ONE, {}).short), ({}, 0, ()))
        for seed, net in enumerate((*SMALL[:60], CROWD)):
            table = drawn_wants(net, seed)
            wants = Wants(net, table)
            told = looks_new.shorts(net, table)
            self.alike((wants.table, wants.fewest, wants.short), (table, fewest_for(net, table),
                                                                  tuple(lot for lot in told if told[lot] > 0)))

    def test_text_and_len(self):
        self.alike((str(Wants(FULL, FOURS)), len(Wants(FULL, FOURS)), list(Wants(FULL, FOURS))), ("6 wants, 1 new ties", 6, [*FULL.pairs]))
        self.alike((str(Wants(ONE, {})), len(Wants(ONE, {})), list(Wants(ONE, {}))), ("0 wants, 0 new ties", 0, []))

    def test_in(self):
        self.alike([pair in made() for pair in TWICE.pairs], [True, False, True])
        for seed, net in enumerate(SMALL[:40]):
            table, told = drawn_wants(net, seed), looks.numbers(net)
            for pair in net.pairs:
                self.assertIs(pair in Wants(net, table), told[pair] >= table[pair])
        for value in (*STRANGE, 1, (), "ab", ("b", "a"), ("a", "a"), ("a", "b", 2), ["a", "b"], (("a", "b"),), TWICE, THREE):
            self.assertIs(value in made(), False)

    def test_equal(self):
        wants = made()
        self.assertIs(wants == Wants(TWICE, THREE), True)
        self.assertIs(wants != made(), False)
        for value in (*STRANGE, 3, (), THREE, TWICE, str(wants), (wants,), Wants(TWICE, {**THREE, ("a", "b"): 3}), Wants(LOOSE, THREE),
                      Wants(ONE, {})):
            self.assertIs(wants == value, False)
            self.assertIs(value == wants, False)
            self.assertIs(wants != value, True)

    def test_refused(self):
        for value in NO_NETS:
            self.refused(InvalidNet, Wants, value, None)
        for value in NO_WANTS:
            self.refused(InvalidRow, Wants, TWICE, value)

    def test_never_changes(self):
        told = dict(THREE)
        wants = Wants(TWICE, told)
        told["a", "b"] = 9
        wants.table["a", "b"] = 9
        for name in ("net", "table", "fewest", "short"):
            with self.assertRaises(AttributeError):
                setattr(wants, name, 1)
        with self.assertRaises(TypeError):
            operator.getitem(wants, ("a", "b"))
        wants.with_want("a", "b", 9)
        wants.lowered()
        wants.greater(wants)
        self.assertTrue(wants == made())
        self.alike(wants.table, THREE)


class Made(Case):

    def test_with_want(self):
        for one, other in (("a", "b"), ("b", "a")):
            wants = made().with_want(one, other, 9)
            self.assertIs(type(wants), Wants)
            self.alike((wants.table, wants.fewest), ({**THREE, ("a", "b"): 9}, fewest_for(TWICE, {**THREE, ("a", "b"): 9})))
        self.assertTrue(made().with_want("c", "a", 2).with_want("a", "c", 3) == made())
        for value in (*NO_PLACES, "z"):
            self.alike(self.refused(UnknownPlace, made().with_want, value, "z", None).asked, value)
            self.alike(self.refused(UnknownPlace, made().with_want, "a", value, None).asked, value)
        self.alike(self.refused(UnknownPlace, made().with_want, "a", "a", None).asked, "a")
        for value in (*NO_NUMBERS, 0, 1, 10):
            self.alike(self.refused(InvalidNumber, made().with_want, "a", "b", value).number, value)
        self.refused(UnknownPlace, Wants(ONE, {}).with_want, "a", "a", 2)

    def test_lowered(self):
        self.alike((made().lowered().table, Wants(FULL, FOURS).lowered().table), (dict.fromkeys(TWICE.pairs, 2),
                                                                                  dict.fromkeys(FULL.pairs, 3)))
        self.alike((Wants(ONE, {}).lowered().table, Wants(LOOSE, THREE).lowered().table), ({}, dict.fromkeys(LOOSE.pairs, 2)))
        for seed, net in enumerate(SMALL[:40]):
            table, told = drawn_wants(net, seed), looks.numbers(net)
            lowered = Wants(net, table).lowered()
            self.assertIs(type(lowered), Wants)
            self.alike(lowered.table, {pair: max(2, min(table[pair], told[pair])) for pair in table})
            self.assertTrue(lowered.lowered() == lowered)

    def test_for_net(self):
        other = Net(("a", "b", "c"), {("a", "c"): 5})
        wants = made().for_net(other)
        self.assertIs(type(wants), Wants)
        self.assertTrue(wants.net == other and wants == Wants(other, THREE) and wants.for_net(TWICE) == made())
        for value in (*NO_NETS, PAIR, FULL, Net(("a", "b", "d")), RING, made()):
            self.refused(InvalidNet, made().for_net, value)

    def test_greater_and_lesser(self):
        other = Wants(TWICE, {("a", "b"): 4, ("a", "c"): 2, ("b", "c"): 2})
        self.alike((made().greater(other).table, made().lesser(other).table), ({("a", "b"): 4, ("a", "c"): 3, ("b", "c"): 2},
                                                                               dict.fromkeys(TWICE.pairs, 2)))
        for seed, net in enumerate(SMALL[:40]):
            one, two = Wants(net, drawn_wants(net, seed)), Wants(net, drawn_wants(net, seed + 1))
            for wants, pick in ((one.greater(two), max), (one.lesser(two), min)):
                self.assertIs(type(wants), Wants)
                self.alike(wants.table, {pair: pick(one.table[pair], two.table[pair]) for pair in net.pairs})
            self.assertTrue(one.greater(two) == two.greater(one) and one.greater(one) == one == one.lesser(one))
        for value in (*STRANGE, 3, (), THREE, TWICE, Wants(LOOSE, THREE), Wants(PAIR, {("a", "b"): 2}),
                      Wants(Net(("a", "b", "d")), drawn_wants(Net(("a", "b", "d")), 1))):
            self.refused(InvalidOperation, made().greater, value)
            self.refused(InvalidOperation, made().lesser, value)

    def test_great_nets(self):
        wants = Wants(NINE, dict.fromkeys(NINE.pairs, 9))
        self.alike((wants.fewest, len(wants.short), str(wants.lowered())), (41, 510, "36 wants, 9 new ties"))


if __name__ == "__main__":
    unittest.main()
