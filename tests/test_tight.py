"""Needs and tight lots: the functions."""

import unittest

from keptways.base.nets import Net
from keptways.errors import InvalidLot, InvalidNet, UnknownPlace
from keptways.ways.tight import barring_lot, narrow_lots, need, need_beside, side_by_side, spare, tight_lots, uncrossed
from tests import looks
from tests.samples import ALL, CROWD, FULL, HUB, LOOSE, NINE, NO_LOTS, NO_NETS, NO_PLACES, ONE, PAIR, RING, SIXTY, SMALL, Case, drawn_nets

# Without ties, the lot of all places other than z is tight, too.
APART = Net(("a", "b", "c", "z"), {("a", "b"): 1, ("b", "c"): 2})


class Numbers(Case):

    def test_need(self):
        self.alike((need(HUB, ("a",)), need(HUB, ("a", "z")), need(HUB, ()), need(HUB, HUB.places)), (4, 3, 0, 0))
        self.alike((need(ONE, ()), need(ONE, ("a",)), need(SIXTY, ("pier",))), (0, 0, 60))
        for net in SMALL[:60]:
            told = looks.numbers(net)
            for lot in looks.all_lots(net.places):
                self.alike(need(net, lot), looks.need(told, lot))
                self.assertLessEqual(need(net, lot), net.cut(lot))

    def test_need_beside_and_spare(self):
        self.alike((need_beside(HUB, "z", ("a", "b")), spare(HUB, "z", ("a", "b"))), (3, 2))
        self.alike((need_beside(HUB, "z", ("a", "b", "c")), spare(HUB, "z", ("a", "b", "c")), spare(HUB, "z", ())), (0, 4, 0))
        self.alike((need_beside(ONE, "a", ()), spare(ONE, "a", ()), spare(SIXTY, "dock", ("pier",))), (0, 0, 60))
        for net in SMALL[:60]:
            for place in net.places:
                told = looks.beside(net, place)
                for lot in looks.all_lots(looks.others(net, place)):
                    self.alike(need_beside(net, place, lot), looks.need(told, lot))
                    self.alike(spare(net, place, lot), looks.cut(net, lot) - looks.need(told, lot))

    def test_no_lots(self):
        for value in NO_LOTS:
            self.refused(InvalidLot, need, FULL, value)
        for value in (*NO_LOTS, ("d",), ("a", "d"), FULL.places):
            self.refused(InvalidLot, need_beside, FULL, "d", value)
            self.refused(InvalidLot, spare, FULL, "d", value)
            self.refused(InvalidLot, side_by_side, FULL, "d", value, ("q",))
            self.refused(InvalidLot, side_by_side, FULL, "d", value, ("a",))
            self.refused(InvalidLot, side_by_side, FULL, "d", ("a",), value)


class Lots(Case):

    def test_tight_and_narrow_lots(self):
        self.alike((tight_lots(HUB, "z"), narrow_lots(HUB, "z")), ((("b",), ("c",)), (("a",), ("b",), ("b", "c"), ("c",))))
        self.alike((tight_lots(ONE, "a"), narrow_lots(SIXTY, "dock"), tight_lots(PAIR, "a")), ((), (), ()))
        self.alike((tight_lots(APART, "z"), tight_lots(LOOSE, "b")),
                   ((("a",), ("a", "b"), ("b", "c"), ("c",)), (("a",), ("c",))))
        for net in SMALL[:80]:
            for place in net.places:
                self.alike(tight_lots(net, place), looks.lots_with_spare(net, place, 0))
                self.alike(narrow_lots(net, place), looks.lots_with_spare(net, place, 1))

    def test_great_nets(self):
        for net in (CROWD, NINE):
            for place in net.places:
                told = looks.lots_with_spare(net, place, 1)
                self.alike(narrow_lots(net, place), told)
                self.alike(tight_lots(net, place), tuple(lot for lot in told if spare(net, place, lot) == 0))

    def test_barring_lot(self):
        self.alike((barring_lot(HUB, "z", "b", "c"), barring_lot(HUB, "z", "a", "a"), barring_lot(HUB, "z", "a", "b")),
                   (("b", "c"), ("a",), None))
        self.alike((barring_lot(PAIR, "a", "b", "b"), barring_lot(FULL, "d", "b", "a")), (None, ("a", "b")))
        for net in SMALL[:60]:
            for place in net.places:
                narrow = looks.lots_with_spare(net, place, 1)
                for one in looks.others(net, place):
                    for other in looks.others(net, place):
                        both = [lot for lot in narrow if one in lot and other in lot]
                        greatest = [lot for lot in both if not any({*lot} < {*more} for more in both)]
                        self.assertIn(barring_lot(net, place, one, other), greatest or [None])

    def test_side_by_side(self):
        for net in SMALL[:30]:
            for place in net.places[:2]:
                told = looks.beside(net, place)
                every = looks.all_lots(looks.others(net, place))
                for lot in every:
                    for other in every:
                        word = side_by_side(net, place, lot, other)
                        meet, join = {*lot} & {*other}, {*lot} | {*other}
                        parts = (meet, join) if word == "meet" else ({*lot} - {*other}, {*other} - {*lot})
                        self.assertIn(word, ("meet", "rests"))
                        self.assertLessEqual(looks.need(told, lot) + looks.need(told, other), sum(looks.need(told, part) for part in parts))

    def test_both_words(self):
        words = {side_by_side(net, net.places[-1], lot, other) for net in SMALL[:30]
                 for lot in looks.all_lots(net.places[:-1]) for other in looks.all_lots(net.places[:-1])}
        self.assertEqual(words, {"meet", "rests"})


class Uncrossed(Case):

    def right(self, net, place, told, value):
        lots = looks.all_lots(looks.others(net, place))
        self.assertIs(type(value), tuple)
        self.assertEqual(list(value), sorted({*value}))
        self.assertEqual({one for lot in value for one in lot}, {one for lot in told for one in lot})
        for one in value:
            self.assertIn(one, lots)
            self.assertEqual(spare(net, place, one), 0)
            for other in value:
                self.assertIn({*one} & {*other}, (set(), {*one}, {*other}))

    def test_tuples_of_tight_lots(self):
        for net in (*SMALL[:80], FULL, RING, APART, LOOSE):
            for place in net.places:
                tight = tight_lots(net, place)
                for told in (tight, tight[::-1], tight[::2], tight[1::2], tight[:3] * 2, ((), *tight), ((),), ()):
                    self.right(net, place, told, uncrossed(net, place, told))
                for one in tight:
                    for other in tight:
                        self.right(net, place, (one, other), uncrossed(net, place, (one, other)))

    def test_great_nets(self):
        for net in (NINE, CROWD, *[net for net in drawn_nets(200) if len(net) > 6][:40]):
            for place in net.places[:3]:
                tight = tight_lots(net, place)
                for told in (tight, tight[::3]):
                    self.right(net, place, told, uncrossed(net, place, told))

    def test_the_lot_of_all_others(self):
        self.right(APART, "z", (("a", "b", "c"),), uncrossed(APART, "z", (("a", "b", "c"),)))
        self.right(APART, "z", (("a", "b", "c"), ("a", "b"), ()), uncrossed(APART, "z", (("a", "b", "c"), ("a", "b"), ())))
        self.refused(InvalidLot, uncrossed, HUB, "z", (("a", "b", "c"),))
        self.alike((uncrossed(ONE, "a", ()), uncrossed(ONE, "a", ((),))), ((), ()))

    def test_no_tight_lots(self):
        for value in (*NO_LOTS, 5, [("b",)], (["b"],), (("b",), ("a",)), (("a", "b"),), (("z",),), (("b", "z"),), (("b",), None),
                      ("b",), {("b",): 1}, (("c", "b"),), (("q",),)):
            self.refused(InvalidLot, uncrossed, HUB, "z", value)


class Refused(Case):

    def test_no_nets(self):
        for value in NO_NETS:
            for call, rest in ((need, (None,)), (need_beside, ("q", None)), (spare, ("q", None)), (tight_lots, ("q",)),
                               (narrow_lots, (None,)), (barring_lot, ("q", "q", "q")), (side_by_side, ("q", None, None)),
                               (uncrossed, ("q", None))):
                self.refused(InvalidNet, call, value, *rest)

    def test_unknown_places(self):
        for net in (FULL, ONE):
            for value in NO_PLACES:
                for call, rest in ((need_beside, (None,)), (spare, (None,)), (tight_lots, ()), (narrow_lots, ()),
                                   (barring_lot, ("q", "q")), (side_by_side, (None, None)), (uncrossed, (None,))):
                    self.alike(self.refused(UnknownPlace, call, net, value, *rest).asked, value)

    def test_unknown_places_of_barring_lots(self):
        for value in (*NO_PLACES, "d"):
            self.alike(self.refused(UnknownPlace, barring_lot, FULL, "d", value, "q").asked, value)
            self.alike(self.refused(UnknownPlace, barring_lot, FULL, "d", "a", value).asked, value)


if __name__ == "__main__":
    unittest.main()
