"""Lots: is_lot, opposite, lots, corners, do_cross, between, excesses, is_row, is_nested, merged_row, weakest, lifted."""

import unittest

from keptways.base.lots import (between, corners, do_cross, excesses, is_lot, is_nested, is_row, lifted, lots, merged_row,
                                opposite, weakest)
from keptways.base.nets import Net
from keptways.errors import InvalidLot, InvalidNet, InvalidNumber, InvalidOperation, InvalidRow
from tests import looks
from tests.samples import (ALL, CROWD, FULL, HUB, LOOSE, NINE, NO_LOTS, NO_NETS, NO_NUMBERS, ONE, PAIR, RING, SIXTY, SMALL,
                           Case, single_ties)

FOUR = [net for net in SMALL if len(net) == 4][:6]


class Lots(Case):

    def test_is_lot(self):
        for net in ALL[:20]:
            for lot in looks.all_lots(net.places):
                self.assertIs(is_lot(net, lot), True)
                self.assertIs(is_lot(net, list(lot)), False)
                if len(lot) > 1:
                    self.assertIs(is_lot(net, lot[::-1]), False)
                    self.assertIs(is_lot(net, (*lot, lot[-1])), False)
        for value in NO_LOTS:
            self.assertIs(is_lot(FULL, value), False)
        self.assertIs(is_lot(ONE, ("b",)), False)
        self.assertIs(is_lot(RING, ("a", ("b",))), False)

    def test_opposite(self):
        self.alike(opposite(HUB, ("a", "z")), ("b", "c"))
        self.alike((opposite(HUB, ()), opposite(HUB, HUB.places)), (HUB.places, ()))
        for net in ALL[:30]:
            for lot in looks.all_lots(net.places):
                other = opposite(net, lot)
                self.alike(other, tuple(sorted({*net.places} - {*lot})))
                self.alike(net.cut(other), net.cut(lot))

    def test_lots(self):
        for net in (ONE, PAIR, SIXTY, RING, FULL, NINE, *SMALL[:20]):
            self.alike(list(lots(net)), looks.proper_lots(net.places))
        self.alike((list(lots(ONE)), list(lots(PAIR)), len(list(lots(NINE)))), ([], [("a",), ("b",)], 510))

    def test_lots_is_a_generator(self):
        found = lots(RING)
        self.assertEqual([next(found), next(found)], [("a",), ("a", "b")])
        for value in NO_NETS:
            late = lots(value)
            self.refused(InvalidNet, next, late)

    def test_no_nets(self):
        for value in NO_NETS:
            for call, given in ((is_lot, ((),)), (is_lot, (None,)), (opposite, (None,)), (corners, (None, None)),
                                (do_cross, ((), ())), (between, (None, None)), (excesses, (None, None)), (is_row, (None,)),
                                (is_nested, (None,)), (merged_row, (None,)), (weakest, ()), (lifted, (None, None))):
                self.refused(InvalidNet, call, value, *given)

    def test_no_lots(self):
        for value in NO_LOTS:
            self.refused(InvalidLot, opposite, FULL, value)
            self.refused(InvalidLot, lifted, FULL, value, 1)
            self.refused(InvalidLot, lifted, FULL, value, None)
            for call in (corners, do_cross, between, excesses):
                self.refused(InvalidLot, call, FULL, value, ())
                self.refused(InvalidLot, call, FULL, ("a",), value)
                self.refused(InvalidLot, call, FULL, value, None)


class Corners(Case):

    def test_corners(self):
        for net in FOUR:
            every = looks.all_lots(net.places)
            for one in every:
                for other in every:
                    parts = ({*one} & {*other}, {*one} - {*other}, {*other} - {*one}, {*net.places} - {*one} - {*other})
                    told = tuple(tuple(sorted(part)) for part in parts)
                    self.alike(corners(net, one, other), told)
                    self.assertIs(do_cross(net, one, other), all(parts))

    def test_do_cross(self):
        self.assertIs(do_cross(RING, ("a", "b"), ("b", "c")), True)
        self.assertIs(do_cross(RING, ("a", "b"), ("c", "d", "e")), False)
        self.assertIs(do_cross(FULL, ("a", "b", "c"), ("c", "d")), False)
        self.assertIs(do_cross(FULL, ("a", "b"), ("b",)), False)
        self.assertIs(do_cross(PAIR, ("a",), ("a",)), False)
        self.assertIs(do_cross(FULL, (), FULL.places), False)

    def test_between(self):
        self.alike(between(HUB, ("a", "b"), ("z",)), 3)
        self.alike((between(HUB, (), ()), between(HUB, (), HUB.places), between(SIXTY, ("pier",), ("dock",))), (0, 0, 60))
        for net in FOUR:
            for one in looks.all_lots(net.places):
                for other in looks.all_lots(net.places):
                    if {*one} & {*other}:
                        self.refused(InvalidOperation, between, net, one, other)
                    else:
                        ties = [pair for pair in single_ties(net) if {*pair} & {*one} and {*pair} & {*other}]
                        self.alike(between(net, one, other), len(ties))

    def test_excesses(self):
        self.alike(excesses(FULL, ("a", "b"), ("b", "c")), (2, 2))
        self.alike(excesses(SIXTY, ("dock",), ("dock",)), (0, 120))
        for net in FOUR:
            every = looks.all_lots(net.places)
            for one in every:
                for other in every:
                    both, first, second, _ = corners(net, one, other)
                    together = looks.cut(net, one) + looks.cut(net, other)
                    join = tuple(sorted({*one, *other}))
                    self.alike(excesses(net, one, other),
                               (together - looks.cut(net, both) - looks.cut(net, join),
                                together - looks.cut(net, first) - looks.cut(net, second)))


class Rows(Case):

    def rows(self, net):
        """Tuples of lots, right ones and others."""
        every = looks.all_lots(net.places)
        yield ()
        for one in every:
            yield (one,)
            for other in every:
                yield one, other
                for third in every[::3]:
                    yield one, other, third

    def test_is_row(self):
        for net in FOUR[:3]:
            for row in self.rows(net):
                places = [place for lot in row for place in lot]
                told = (list(row) == sorted(row) and all(0 < len(lot) < len(net) for lot in row)
                        and len({*places}) == len(places))
                self.assertIs(is_row(net, row), told, row)

    def test_is_nested(self):
        for net in FOUR[:3]:
            for row in self.rows(net):
                pairs = [(one, other) for one in row for other in row]
                told = (list(row) == sorted({*row}) and all(0 < len(lot) < len(net) for lot in row)
                        and not any(do_cross(net, one, other) or opposite(net, one) == other for one, other in pairs))
                self.assertIs(is_nested(net, row), told, row)

    def test_nested_lots(self):
        self.assertIs(is_nested(RING, (("a",), ("a", "b"), ("a", "b", "c"), ("d",))), True)
        self.assertIs(is_nested(RING, (("a",), ("b", "c", "d", "e"))), False)
        self.assertIs(is_nested(RING, (("a", "b"), ("b", "c"))), False)
        self.assertIs(is_nested(NINE, tuple(looks.proper_lots(NINE.places))), False)
        self.assertIs(is_nested(ONE, ()), True)

    def test_other_values(self):
        for value in (*NO_LOTS, 5, [("a",)], [], (["a"],), (("a",), ["b"]), {("a",): 1}, (("a",), None), (("a",), ("b", "a")),
                      ("a", "b"), (("a",), ("q",)), ((),), (FULL.places,), (FULL,), ((("a",),),)):
            if value == (("a",),):
                continue
            self.assertIs(is_row(FULL, value), False)
            self.assertIs(is_nested(FULL, value), False)
            self.refused(InvalidRow, merged_row, FULL, value)
        for net in (ONE, FULL, NINE):
            self.assertIs(is_row(net, ()), True)
        self.assertIs(is_row(ONE, (("a",),)), False)

    def test_merged_row(self):
        self.alike(merged_row(RING, (("a", "b"), ("d", "e"))).lines, ("a c d", "a c 1", "a d 1", "c d 1"))
        self.alike(merged_row(HUB, (("a",), ("b", "z"))).lines, ("a b c", "a b 3", "a c 1", "b c 2"))
        self.alike(merged_row(NINE, ()).lines, NINE.lines)
        for net in FOUR:
            for row in self.rows(net):
                if is_row(net, row):
                    self.merged(net, row)
                else:
                    self.refused(InvalidRow, merged_row, net, row)

    def merged(self, net, row):
        names = {place: next((lot[0] for lot in row if place in lot), place) for place in net.places}
        merged = merged_row(net, row)
        self.alike(merged.places, tuple(sorted({*names.values()})))
        for lot in looks.all_lots(merged.places):
            whole = tuple(place for place in net.places if names[place] in lot)
            self.alike(merged.cut(lot), looks.cut(net, whole))


class Cuts(Case):

    def test_weakest(self):
        self.alike(weakest(HUB), (3, (("b",), ("c",))))
        self.alike((weakest(PAIR), weakest(SIXTY), weakest(LOOSE)),
                   ((4, (("a",),)), (60, (("dock",),)), (0, (("a",), ("a", "b"), ("b",)))))
        self.alike(len(weakest(NINE)[1]), 255)
        for net in SMALL:
            if len(net) > 1:
                cuts = {lot: looks.cut(net, lot) for lot in looks.proper_lots(net.places)}
                least = min(cuts.values())
                self.alike(weakest(net), (least, tuple(lot for lot in cuts if cuts[lot] == least and net.places[-1] not in lot)))

    def test_weakest_of_one_place(self):
        self.refused(InvalidOperation, weakest, ONE)

    def test_lifted(self):
        for net in SMALL[:40]:
            for lot in looks.all_lots(net.places):
                cuts = [looks.cut(net, part) for part in looks.all_lots(lot) if part]
                for most in (0, 1, 2, 3, 4, 10 ** 60 - 1):
                    self.assertIs(lifted(net, lot, most), all(many >= most for many in cuts))
        self.assertIs(lifted(CROWD, (), 10 ** 59), True)
        self.assertIs(lifted(FULL, FULL.places, 1), False)
        self.assertIs(lifted(FULL, ("a", "b"), 3), True)
        self.assertIs(lifted(FULL, ("a", "b"), 4), False)
        self.assertIs(lifted(RING, ("a", "c"), 2), True)

    def test_no_numbers(self):
        for value in NO_NUMBERS:
            self.alike(self.refused(InvalidNumber, lifted, FULL, ("a",), value).number, value)


if __name__ == "__main__":
    unittest.main()
