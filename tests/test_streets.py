"""Streets: is_streets, one-way numbers and papers, streets along growths, streets_for, streets papers."""

import unittest

from keptways.base.nets import Net
from keptways.errors import InvalidGrowth, InvalidNet, InvalidNumber, InvalidOperation, InvalidStreets, NoWay, UnknownPlace
from keptways.grow.growth import growth_of, grown, holds_all
from keptways.grow.streets import (is_one_way_paper, is_streets, is_streets_paper, one_way, one_way_paper, streets_along, streets_for,
                                   streets_paper)
from tests import looks, looks_along
from tests.samples import (ALL, CROWD, FULL, HUB, LETTERS, LOOSE, NINE, NO_NETS, NO_PLACES, ONE, PAIR, RING, SIXTY, SMALL, STRANGE, Case)
from tests.test_growth import FOLDED, GROWTH, NO_HALVES

TRIO = Net(("a", "b", "c"), {("a", "b"): 2, ("b", "c"): 1})
NEAR = ({}, {("a", "b"): 2}, {("a", "b"): 2, ("b", "c"): 2}, {("a", "b"): 1, ("b", "c"): 1}, {("a", "b"): 2, ("b", "a"): 1, ("b", "c"): 1},
        {("a", "b"): 2, ("b", "a"): 0, ("b", "c"): 1}, {("a", "b"): 2, ("b", "c"): True}, {("a", "b"): 3, ("b", "a"): -1, ("b", "c"): 1},
        {("a", "b"): 2, ("b", "c"): 1, ("a", "c"): 1}, {("a", "b"): 2, ("b", "c"): 1, ("a", "a"): 1}, {("a", "b"): 2, ("b", "c"): "1"},
        {("a", "b"): 2, ("b", "c"): 1, ("a", "c"): 0}, {("a", "b"): 2, ("b", "c"): 1, ("a", "q"): 1}, {"ab": 2, "bc": 1},
        {("a", "b"): 2, ("b", "c"): 1, "ab": 1}, {("a", "b", "a"): 2, ("b", "c"): 1}, {("a", "b"): 2, ("b", "c"): 1, (1, (2,)): None},
        ((("a", "b"), 2), (("b", "c"), 1)), [("a", "b"), ("a", "b"), ("b", "c")], {("a", "b"): 2, ("b", "c"): 10 ** 60},
        {("a", "b"): 2, ("b", "c"): 1, ("a", "b", "a"): 1}, {("a", "b"): 2, ("b", "c"): 1, ("q", "a"): 1},
        {("a", "b"): 2, ("b", "c"): None}, {("a", "b"): 2, ("b", "c"): [1]}, {("a", "b"): 2, ("b", "c"): 1, None: 1}, {("a", "b"): 2, 1: 1})
NO_STREETS = (*STRANGE, *NEAR, 0, 1, (), ("a", "b"), "q", TRIO)
MADE = [(net, looks_along.drawn_streets(net, seed)) for seed, net in enumerate(SMALL[:70])]


class Asked(Case):

    def test_is_streets(self):
        for streets in ({("a", "b"): 2, ("b", "c"): 1}, {("c", "b"): 1, ("b", "a"): 2}, {("b", "a"): 1, ("b", "c"): 1, ("a", "b"): 1}):
            self.assertIs(is_streets(TRIO, streets), True)
        for value in NO_STREETS:
            self.assertIs(is_streets(TRIO, value), False, value)
        for net in (ONE, LOOSE, NINE):
            self.assertIs(is_streets(net, {}), True)
            self.assertIs(is_streets(net, {("a", "b"): 1}), False)
        self.assertIs(is_streets(SIXTY, {("pier", "dock"): 60}), True)
        self.assertIs(is_streets(SIXTY, {("pier", "dock"): 31, ("dock", "pier"): 29}), True)
        self.assertIs(is_streets(SIXTY, {("pier", "dock"): 31, ("dock", "pier"): 30}), False)
        self.assertIs(is_streets(ONE, {("a", "a"): 1}), False)

    def test_drawn_and_bent_streets(self):
        for net, streets in MADE:
            self.assertIs(is_streets(net, streets), True)
            self.assertIs(is_streets(net, dict(reversed(streets.items()))), True)
        for net, streets in MADE[:12]:
            for bent in looks.bends(streets):
                self.assertIs(is_streets(net, bent), looks_along.right_streets(net, bent), bent)

    def test_one_way(self):
        for net, streets in MADE:
            for (one, other), many in looks_along.one_ways(net, streets).items():
                self.alike(one_way(net, streets, one, other), many)
        self.alike((one_way(PAIR, {("a", "b"): 4}, "a", "b"), one_way(PAIR, {("a", "b"): 4}, "b", "a")), (4, 0))
        self.alike(one_way(SIXTY, {("pier", "dock"): 60}, "pier", "dock"), 60)
        self.alike(one_way(LOOSE, {}, "c", "a"), 0)

    def test_one_way_papers(self):
        for net, streets in MADE:
            for (one, other), many in looks_along.one_ways(net, streets).items():
                paper = one_way_paper(net, streets, one, other)
                self.assertTrue(looks_along.right_one_way_paper(net, streets, one, other, paper), paper)
                self.alike(len(paper[0]), many)
                self.assertIs(is_one_way_paper(net, streets, one, other, paper), True)

    def test_one_way_papers_made_otherwise(self):
        streets = {("a", "b"): 1, ("a", "c"): 1, ("b", "c"): 1, ("c", "d"): 2, ("b", "d"): 1, ("d", "a"): 1}
        net = Net(("a", "b", "c", "d"), looks.counted(looks_along.single_streets(streets)))
        for ways, lot in (((("a", "b", "d"), ("a", "c", "d")), ("a",)), ((("a", "c", "d"), ("a", "b", "d")), ("a",)),
                          ((("a", "b", "c", "d"), ("a", "c", "d")), ("a",))):
            self.assertIs(is_one_way_paper(net, streets, "a", "d", (ways, lot)), True)
        for ways, lot in (((("a", "b", "d"), ("a", "b", "c", "d")), ("a",)), ((("a", "b", "d"),), ("a",)),
                          ((("a", "d"), ("a", "c", "d")), ("a",)),
                          ((("a", "b", "d"), ("a", "c", "d")), ("a", "b")), ((("a", "b", "d"), ("a", "c", "b", "d")), ("a",)),
                          ((), ("a", "d")),
                          ((), ("d",)), ((), ()), ((), net.places), ((("a", "b", "d"), ("a", "c", "d")), ["a"])):
            self.assertIs(is_one_way_paper(net, streets, "a", "d", (ways, lot)), False)
        self.assertIs(is_one_way_paper(net, streets, "d", "a", ((("d", "a"),), ("b", "c", "d"))), True)
        self.assertIs(is_one_way_paper(net, streets, "d", "a", ((("d", "a"),), ("d",))), True)
        self.assertIs(is_one_way_paper(PAIR, {("a", "b"): 4}, "b", "a", ((), ("b",))), True)
        self.assertIs(is_one_way_paper(PAIR, {("a", "b"): 4}, "a", "b", ((("a", "b"),) * 4, ("a",))), True)
        self.assertIs(is_one_way_paper(PAIR, {("a", "b"): 3, ("b", "a"): 1}, "a", "b", ((("a", "b"),) * 4, ("a",))), False)
        for value in (*STRANGE, 5, (), ((),), ((), ("a",), ())):
            self.assertIs(is_one_way_paper(PAIR, {("b", "a"): 4}, "a", "b", value), False)

    def test_a_street_is_gone_back_once_only(self):
        steps = [("a", "b"), ("b", "c"), ("c", "h"), ("a", "d"), ("d", "c"), ("a", "e"), ("e", "c"), ("b", "f"), ("f", "h"), ("b", "g"),
                 ("g", "h")]
        net = Net(tuple("abcdefgh"), looks.counted(steps))
        streets = looks_along.counted_steps(steps)
        paper = one_way_paper(net, streets, "a", "h")
        self.alike((one_way(net, streets, "a", "h"), len(paper[0])), (2, 2))
        self.assertTrue(looks_along.right_one_way_paper(net, streets, "a", "h", paper))

    def test_bent_one_way_papers(self):
        for net, streets in MADE[8:14]:
            for one, other in net.pairs[:2]:
                for bent in looks.bends(one_way_paper(net, streets, other, one)):
                    self.assertIs(is_one_way_paper(net, streets, other, one, bent),
                                  looks_along.right_one_way_paper(net, streets, other, one, bent), bent)

    def test_refused(self):
        streets = {("a", "b"): 2, ("b", "c"): 1}
        for call in (one_way, one_way_paper, is_one_way_paper):
            more = (None,) if call is is_one_way_paper else ()
            for value in NO_NETS:
                self.refused(InvalidNet, call, value, None, None, None, *more)
            for value in NO_STREETS:
                self.refused(InvalidStreets, call, TRIO, value, "q", "q", *more)
            for value in NO_PLACES:
                self.alike(self.refused(UnknownPlace, call, TRIO, streets, value, "z", *more).asked, value)
                self.alike(self.refused(UnknownPlace, call, TRIO, streets, "a", value, *more).asked, value)
            for place in TRIO.places:
                self.refused(InvalidOperation, call, TRIO, streets, place, place, *more)
            self.refused(InvalidOperation, call, ONE, {}, "a", "a", *more)
        for value in NO_NETS:
            self.refused(InvalidNet, is_streets, value, None)

    def test_nothing_handed_in_is_changed(self):
        streets = {("b", "c"): 1, ("a", "b"): 2}
        one_way_paper(TRIO, streets, "a", "c")
        is_streets(TRIO, streets)
        self.alike(streets, {("b", "c"): 1, ("a", "b"): 2})


class Grown(Case):

    def test_pinches(self):
        self.alike(streets_along(2, GROWTH), {("a", "b"): 1, ("a", "c"): 2, ("b", "a"): 2, ("c", "b"): 2})
        self.alike(streets_along(1, ("a",)), {})
        self.alike(streets_along(3, ("a", ("pinch", "b", (("a", "a"),) * 3))), {("a", "b"): 3, ("b", "a"): 3})
        one = ("a", ("pinch", "b", (("a", "a"),)))
        for ties, pairs, streets in (
                ((), (("a", "b"),), {("a", "c"): 1, ("b", "a"): 1, ("c", "b"): 1}),
                ((("b", "a"),), (("a", "b"),), {("a", "c"): 1, ("b", "a"): 2, ("c", "b"): 1}),
                ((), (("b", "b"),), {("a", "b"): 1, ("b", "a"): 1, ("b", "c"): 1, ("c", "b"): 1})):
            steps = [("tie", *tie) for tie in ties]
            self.alike(streets_along(1, (*one, *steps, ("pinch", "c", pairs))), streets)

    def test_a_pair_whose_streets_run_one_way(self):
        # Behind the second step all streets between b and c run from c to b.
        growth = (*GROWTH, ("pinch", "d", (("b", "c"), ("b", "c"))))
        self.alike(streets_along(2, growth), {("a", "b"): 1, ("a", "c"): 2, ("b", "a"): 2, ("c", "d"): 2, ("d", "b"): 2})
        mixed = ("a", ("pinch", "b", (("a", "a"),) * 3), ("pinch", "c", (("a", "b"),) * 3), ("tie", "a", "b"),
                 ("pinch", "d", (("a", "b"), ("a", "b"), ("a", "a"))))
        self.alike(streets_along(3, mixed), looks_along.along(mixed))
        self.alike(streets_along(3, mixed)["d", "a"], 2)
        turned = (*GROWTH, ("tie", "c", "b"), ("tie", "b", "c"), ("pinch", "z", (("b", "c"), ("b", "c"))))
        self.alike(streets_along(2, turned), looks_along.along(turned))
        self.alike(streets_along(2, turned)["z", "c"], 1)

    def test_along_growths(self):
        for net in (*ALL[:60], *FOLDED):
            for half in (1, 2, 3):
                if holds_all(net, 2 * half):
                    growth = growth_of(net, half)
                    streets = streets_along(half, growth)
                    self.alike(streets, looks_along.along(growth))
                    self.assertTrue(looks_along.right_streets(net, streets))
                    self.assertTrue(len(net) == 1 or min(looks_along.one_ways(net, streets).values()) >= half)

    def test_no_growths(self):
        for value in NO_HALVES:
            self.alike(self.refused(InvalidNumber, streets_along, value, None).number, value)
        for value in (*STRANGE, 5, (), [*GROWTH], GROWTH[1:], (*GROWTH, ("tie", "a", "a"))):
            self.refused(InvalidGrowth, streets_along, 2, value)
        self.refused(InvalidGrowth, streets_along, 1, GROWTH)


class Found(Case):

    def test_streets_for(self):
        for net in (*ALL[:60], *FOLDED):
            told = looks.numbers(net)
            for half in (1, 2, 3, 30):
                short = [pair for pair in told if told[pair] < 2 * half]
                if short:
                    self.alike(self.refused(NoWay, streets_for, net, half).ends, short[0])
                    continue
                streets = streets_for(net, half)
                self.assertTrue(looks_along.right_streets(net, streets))
                self.assertEqual([*streets], sorted(streets))
                self.assertTrue(all(many >= half for many in looks_along.one_ways(net, streets).values()))
        self.alike((streets_for(ONE, 30), streets_for(SIXTY, 30)), ({}, {("dock", "pier"): 30, ("pier", "dock"): 30}))

    def test_streets_papers(self):
        self.alike((streets_paper(RING, 1)[0], streets_paper(RING, 2)[0], streets_paper(ONE, 30)), ("streets", "lot", ("streets", {})))
        for net in (*ALL[:60], *FOLDED):
            for half in (1, 2, 3, 30):
                paper = streets_paper(net, half)
                self.assertTrue(self.right_paper(net, half, paper), paper)
                self.assertIs(is_streets_paper(net, half, paper), True)
                self.assertEqual(paper[0] == "streets", min(looks.numbers(net).values(), default=60) >= 2 * half)

    def right_paper(self, net, half, value):
        if not isinstance(value, tuple) or len(value) != 2:
            return False
        if value[0] == "streets":
            return (looks_along.right_streets(net, value[1])
                    and all(many >= half for many in looks_along.one_ways(net, value[1]).values()))
        return value[0] == "lot" and value[1] in looks.proper_lots(net.places) and looks.cut(net, value[1]) < 2 * half

    def test_papers_made_otherwise(self):
        for value in (("streets", {("a", "e"): 1, ("e", "d"): 1, ("d", "c"): 1, ("c", "b"): 1, ("b", "a"): 1}),
                      ("streets", {("a", "b"): 1, ("b", "c"): 1, ("c", "d"): 1, ("d", "e"): 1, ("e", "a"): 1})):
            self.assertIs(is_streets_paper(RING, 1, value), True)
            self.assertIs(is_streets_paper(RING, 2, value), False)
        for value in (*STRANGE, 5, (), ("streets",), ("streets", None), ("streets", {}), ("lot", ()), ("lot", RING.places), ("lot", ["a"]),
                      ("lot", ("a",)), ("streets", {("a", "b"): 1, ("b", "c"): 1, ("c", "d"): 1, ("d", "e"): 1, ("a", "e"): 1}),
                      ["lot", ("a",)], ("lot", ("a",), ()), ("Lot", ("a",)), (RING, {})):
            self.assertIs(is_streets_paper(RING, 1, value), False)
        for lot in looks.all_lots(RING.places):
            self.assertIs(is_streets_paper(RING, 2, ("lot", lot)), 0 < len(lot) < 5 and looks.cut(RING, lot) < 4)
        self.assertIs(is_streets_paper(ONE, 1, ("lot", ("a",))), False)
        self.assertIs(is_streets_paper(ONE, 1, ("lot", ())), False)
        self.assertIs(is_streets_paper(ONE, 7, ("streets", {})), True)
        for net, streets in MADE:
            least = min(looks_along.one_ways(net, streets).values(), default=60)
            for half in (1, 2, 3):
                self.assertIs(is_streets_paper(net, half, ("streets", streets)), least >= half)

    def test_bent_papers(self):
        for net, half in ((RING, 1), (RING, 2), (HUB, 1), (FULL, 1), (FULL, 2), (PAIR, 2), (PAIR, 3)):
            for bent in looks.bends(streets_paper(net, half)):
                self.assertIs(is_streets_paper(net, half, bent), self.right_paper(net, half, bent), bent)

    def test_refused(self):
        for call, more in ((streets_for, ()), (streets_paper, ()), (is_streets_paper, (None,))):
            for value in NO_NETS:
                self.refused(InvalidNet, call, value, None, *more)
            for value in NO_HALVES:
                self.alike(self.refused(InvalidNumber, call, RING, value, *more).number, value)
        self.refused(InvalidNumber, streets_for, LOOSE, 31)

    def test_handed_out(self):
        streets = streets_for(RING, 1)
        streets["a", "b"] = 7
        self.assertIs(is_streets(RING, streets_for(RING, 1)), True)
        growth = growth_of(CROWD, 1)
        streets_along(1, growth)[LETTERS[0], LETTERS[1]] = 9
        self.assertIs(is_streets(grown(1, growth), streets_along(1, growth)), True)


if __name__ == "__main__":
    unittest.main()
