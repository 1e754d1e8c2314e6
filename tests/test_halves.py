"""Halves: pairings, rooms, good pairings, balance, streets that keep halves, halving papers."""

import unittest
from itertools import product

from keptways.base.nets import Net
from keptways.errors import InvalidLot, InvalidNet, InvalidRow, InvalidStreets
from keptways.grow.halves import (balanced, crossed_lot, crossing, good_pairing, halved, halving_paper, is_balanced, is_good_pairing,
                                  is_halving_paper, is_pairing, keeps_halves, losing_pair, odd_places, pairings, room_of)
from keptways.grow.streets import is_streets
from tests import looks, looks_along
from tests.looks_along import odd_net
from tests.samples import (ALL, CROWD, FULL, HUB, LOOSE, NINE, NO_LOTS, NO_NETS, ONE, PAIR, RING, SIXTY, SMALL, STRANGE, Case)
from tests.test_streets import MADE, NO_STREETS, TRIO

ODD = [odd_net(many) for many in (0, 2, 4, 6, 8)]
FEW = [net for net in SMALL if len(net) <= 5][:30]
NO_PAIRINGS = (*STRANGE, 0, 1, "q", ("a", "b"), (("a", "b"),), (("a", "b"), ("c",)), (("b", "a"), ("c", "d")), (("c", "d"), ("a", "b")),
               [("a", "b"), ("c", "d")], (["a", "b"], ("c", "d")), (("a", "b"), ("a", "b")), (("a", "b"), ("a", "c")), FULL,
               (("a", "b"), ("c", "d"), ("e", "f")), (("a", "b"), ("c", "e")), {("a", "b"): 1, ("c", "d"): 1})


class Paired(Case):

    def test_odd_places(self):
        self.alike((odd_places(FULL), odd_places(HUB), odd_places(ONE), odd_places(RING)), (("a", "b", "c", "d"), ("b", "c"), (), ()))
        for net in ALL:
            self.alike(odd_places(net), net.odd)
        for net, many in zip(ODD, (0, 2, 4, 6, 8)):
            self.alike(len(odd_places(net)), many)

    def test_pairings(self):
        self.alike(list(pairings(FULL)), [(("a", "b"), ("c", "d")), (("a", "c"), ("b", "d")), (("a", "d"), ("b", "c"))])
        self.alike((list(pairings(ONE)), list(pairings(RING)), list(pairings(HUB))), ([()], [()], [(("b", "c"),)]))
        for net, many in zip(ODD, (1, 1, 3, 15, 105)):
            told = list(pairings(net))
            self.alike(told, looks_along.pairings(net))
            self.alike(len(told), many)
        for net in SMALL[:40]:
            self.alike(list(pairings(net)), looks_along.pairings(net))

    def test_is_pairing(self):
        for net in (*ODD[:4], *FEW):
            for value in looks_along.pairings(net):
                self.assertIs(is_pairing(net, value), True)
                for bent in looks.bends(value):
                    self.assertIs(is_pairing(net, bent), bent in looks_along.pairings(net), bent)
        for value in (*NO_PAIRINGS, ()):
            self.assertIs(is_pairing(FULL, value), False)
        self.assertIs(is_pairing(RING, ()), True)
        self.assertIs(is_pairing(RING, []), False)

    def test_crossing(self):
        pairing = (("a", "b"), ("c", "d"), ("dock", "pier"))
        for lot, many in (((), 0), (("a",), 1), (("a", "b"), 0), (("a", "c"), 2), (("a", "c", "dock"), 3), (("a", "d", "dock", "pier"), 2),
                          (("q",), 0), (("a", "b", "c", "d", "dock", "e", "f", "g", "h", "i", "j", "k"), 1)):
            self.alike(crossing(pairing, lot), many)
            self.alike(crossing((), lot), 0)
        for lot in looks.all_lots("abcde"):
            self.alike(crossing(pairing, lot), looks_along.crossing(pairing, lot))

    def test_no_crossing(self):
        for value in (*STRANGE, 1, "q", ("a", "b"), (("b", "a"),), (("a", "a"),), (("c", "d"), ("a", "b")), (("a", "b"), ("a", "c")),
                      (("a", "c"), ("b", "c")), (("a", "b"), ("a", "b")), [("a", "b")], (["a", "b"],), (("A", "b"),),
                      (("a", "b"), ("c",)), FULL):
            self.refused(InvalidRow, crossing, value, None)
        for value in (*STRANGE, 1, "ab", ("b", "a"), ("a", "a"), ["a"], ("a", 1), ("a", "B"), {"a": 1}, FULL, (("a",),)):
            self.refused(InvalidLot, crossing, (("a", "b"),), value)

    def test_room_of(self):
        self.alike((room_of(FULL, ("a", "b")), room_of(FULL, ("a",)), room_of(FULL, ()), room_of(FULL, FULL.places), room_of(ONE, ("a",))),
                   (2, 1, 0, 0, 0))
        for net in SMALL[:40]:
            for lot, many in looks_along.rooms(net).items():
                self.alike(room_of(net, lot), many)
        for value in NO_LOTS:
            self.refused(InvalidLot, room_of, FULL, value)

    def test_good_pairings(self):
        self.alike((good_pairing(FULL), good_pairing(ONE), good_pairing(HUB)), ((("a", "b"), ("c", "d")), (), (("b", "c"),)))
        passed = 0
        for net in (*ODD, *SMALL, CROWD):
            good = looks_along.good_pairings(net)
            self.alike(good_pairing(net), good[0])
            for value in looks_along.pairings(net)[:20]:
                self.assertIs(is_good_pairing(net, value), value in good)
                lot = crossed_lot(net, value)
                if value in good:
                    self.assertIsNone(lot)
                else:
                    passed += value < good[0]
                    self.assertTrue(looks.right_lot(net.places, lot))
                    self.assertGreater(looks_along.crossing(value, lot), looks_along.rooms(net)[lot])
        # In some nets the first pairing is none that is good.
        self.assertGreater(passed, 0)

    def test_no_good_pairings(self):
        for value in (*NO_PAIRINGS, ()):
            self.assertIs(is_good_pairing(FULL, value), False)
            self.refused(InvalidRow, crossed_lot, FULL, value)
            self.refused(InvalidRow, balanced, FULL, value)
        self.assertIs(is_good_pairing(RING, ()), True)

    def test_no_nets(self):
        for call, more in ((odd_places, ()), (is_pairing, (None,)), (room_of, (None,)), (is_good_pairing, (None,)), (good_pairing, ()),
                           (crossed_lot, (None,)), (is_balanced, (None, None)), (balanced, (None,)), (keeps_halves, (None,)),
                           (losing_pair, (None,)), (halving_paper, ()), (is_halving_paper, (None,)), (halved, ())):
            for value in NO_NETS:
                self.refused(InvalidNet, call, value, *more)

    def test_a_generator_refuses_late(self):
        for value in NO_NETS:
            told = pairings(value)
            self.refused(InvalidNet, next, told)


class Balanced(Case):

    def test_balanced(self):
        self.alike(balanced(PAIR, ()), ({("a", "b"): 2, ("b", "a"): 2}, ()))
        self.alike(balanced(ONE, ()), ({}, ()))
        for net in (*ODD, *SMALL, CROWD, SIXTY, NINE):
            for pairing in looks_along.pairings(net)[:6]:
                streets, arrows = balanced(net, pairing)
                self.assertTrue(looks_along.right_streets(net, streets))
                self.assertTrue(looks_along.right_arrows(pairing, arrows))
                self.assertTrue(looks_along.right_balance(net, streets, arrows))
                self.assertEqual([*streets], sorted(streets))
                self.assertIs(is_balanced(net, streets, arrows), True)

    def test_is_balanced(self):
        for net, streets in MADE:
            for pairing in looks_along.pairings(net)[:3]:
                for sides in list(product((1, -1), repeat=len(pairing)))[:8]:
                    arrows = tuple(pair[::side] for pair, side in zip(pairing, sides))
                    self.assertIs(is_balanced(net, streets, arrows), looks_along.right_balance(net, streets, arrows))
        self.assertIs(is_balanced(TRIO, {("a", "b"): 1, ("b", "a"): 1, ("b", "c"): 1}, (("c", "b"),)), True)
        self.assertIs(is_balanced(TRIO, {("a", "b"): 1, ("b", "a"): 1, ("b", "c"): 1}, (("b", "c"),)), False)
        self.assertIs(is_balanced(TRIO, {("b", "a"): 2, ("b", "c"): 1}, (("c", "b"),)), False)

    def test_no_balance(self):
        streets = {("a", "b"): 2, ("b", "c"): 1}
        for value in NO_STREETS:
            self.refused(InvalidStreets, is_balanced, TRIO, value, None)
        for value in (*STRANGE, (), ("b", "c"), (("a", "b"),), (("b", "b"),), (("b", "c"), ("c", "b")), [("b", "c")], (["b", "c"],),
                      (("b", "c", "b"),),
                      (("b", "q"),), (("b",),), 1, "q", TRIO, (("b", None),)):
            self.refused(InvalidRow, is_balanced, TRIO, streets, value)
        self.refused(InvalidRow, is_balanced, FULL, looks_along.drawn_streets(FULL, 1), (("c", "d"), ("a", "b")))
        self.refused(InvalidRow, is_balanced, FULL, looks_along.drawn_streets(FULL, 1), ())

    def test_losing_pairs(self):
        self.alike((losing_pair(PAIR, {("a", "b"): 4}), losing_pair(PAIR, {("b", "a"): 4}), losing_pair(PAIR,
                                                                                                        {("a", "b"): 3, ("b", "a"): 1})),
                   (("b", "a"), ("a", "b"), ("b", "a")))
        self.alike((losing_pair(ONE, {}), losing_pair(LOOSE, {}), losing_pair(TRIO, {("a", "b"): 1, ("b", "a"): 1, ("c", "b"): 1})),
                   (None, None, None))
        found = []
        for net, streets in MADE:
            pair = looks_along.first_loss(net, streets)
            self.alike(losing_pair(net, streets), pair)
            self.assertIs(keeps_halves(net, streets), pair is None)
            found.append(pair)
        self.assertTrue(None in found and any(pair and pair[0] > pair[1] for pair in found) and any(pair and pair[0] < pair[1] for pair in found))
        for value in NO_STREETS:
            self.refused(InvalidStreets, losing_pair, TRIO, value)
            self.refused(InvalidStreets, keeps_halves, TRIO, value)

    def test_streets_with_one_more_at_most_can_lose(self):
        # Such streets do not keep halves of themselves: what [0.25] denies.
        net = Net(("a", "b", "c", "d"), {("a", "b"): 2, ("a", "d"): 1, ("b", "c"): 1, ("c", "d"): 2})
        streets = {("a", "b"): 1, ("b", "a"): 1, ("c", "d"): 1, ("d", "c"): 1, ("a", "d"): 1, ("b", "c"): 1}
        self.alike((losing_pair(net, streets), looks_along.first_loss(net, streets)), (("c", "a"), ("c", "a")))


class Halved(Case):

    def test_papers(self):
        for net in (*ODD, *ALL):
            paper = halving_paper(net)
            self.assertIs(is_halving_paper(net, paper), True)
            self.assertTrue(looks_along.right_streets(net, paper[2]) and looks_along.right_balance(net, paper[2], paper[1]))
            self.assertTrue(looks_along.right_arrows(paper[0], paper[1]))
            self.assertIs(is_good_pairing(net, paper[0]), True)
            for streets in (paper[2], halved(net)):
                self.assertIs(is_streets(net, streets), True)
                self.assertIsNone(losing_pair(net, streets))
        for net in (*FEW, *ODD[:3]):
            self.assertTrue(looks_along.right_halving_paper(net, halving_paper(net)))
            self.assertIsNone(looks_along.first_loss(net, halved(net)))

    def test_every_good_pairing_will_do(self):
        for net in (*FEW, *ODD[:3]):
            for pairing in looks_along.pairings(net):
                streets, arrows = balanced(net, pairing)
                good = pairing in looks_along.good_pairings(net)
                self.assertIs(is_halving_paper(net, (pairing, arrows, streets)), good)
                self.assertTrue(not good or keeps_halves(net, streets))

    def test_papers_made_otherwise(self):
        pairing = (("a", "b"), ("c", "d"))
        streets, arrows = balanced(FULL, pairing)
        turned = {step[::-1]: many for step, many in streets.items()}
        back = tuple(arrow[::-1] for arrow in arrows)
        self.assertIs(is_halving_paper(FULL, (pairing, back, turned)), True)
        for value in ((pairing, arrows, turned), (pairing, back, streets), (pairing, arrows[::-1], streets), (pairing, streets, arrows),
                      [pairing, arrows, streets], (pairing, arrows), (pairing, arrows, streets, ()), (pairing, [*arrows], streets),
                      ((("a", "c"), ("b", "d")), arrows, streets), (pairing, arrows, tuple(streets.items())), ((), (), streets)):
            self.assertIs(is_halving_paper(FULL, value), False)
        for value in (*STRANGE, 5, (), (None, None, None), FULL, ((), (), {})):
            self.assertIs(is_halving_paper(FULL, value), False)
        self.assertIs(is_halving_paper(ONE, ((), (), {})), True)
        self.assertIs(is_halving_paper(PAIR, ((), (), {("a", "b"): 2, ("b", "a"): 2})), True)
        self.assertIs(is_halving_paper(PAIR, ((), (), {("a", "b"): 3, ("b", "a"): 1})), False)

    def test_bent_papers(self):
        for net in (TRIO, HUB, PAIR, *[net for net in FEW if 0 < len(net.odd) and net.size < 8][:4]):
            for bent in looks.bends(halving_paper(net)):
                self.assertIs(is_halving_paper(net, bent), looks_along.right_halving_paper(net, bent), bent)

    def test_handed_out(self):
        halved(PAIR)["a", "b"] = 9
        balanced(PAIR, ())[0]["a", "b"] = 9
        halving_paper(PAIR)[2]["a", "b"] = 9
        self.alike((halved(PAIR), halving_paper(PAIR)[2]), ({("a", "b"): 2, ("b", "a"): 2},) * 2)


if __name__ == "__main__":
    unittest.main()
