"""Papers that a pair keeps, and that it loses."""

import unittest

from keptways.base.nets import Net
from keptways.past.pairs import is_keeping_paper, keeping_pairs, keeping_paper, led_past, pairs_at
from keptways.ways.flows import family, least_lots, number
from tests import looks
from tests.samples import ALL, CROWD, FULL, HUB, PAIR, RING, SMALL, STRANGE, Case

LOSES = ("loses", "a", "c", (("a", "c"), ("a", "b", "c"), ("a", "d", "c")), ("a", "b"))
# Both trees tell the numbers of the places other than z in the net behind.
KEEPS = ("kept", (("a", "b", 3, (("a", "b"),) * 2 + (("a", "c", "b"),)), ("a", "c", 3, (("a", "c"), ("a", "b", "c"), ("a", "z", "c")))))


class Papers(Case):

    def test_each_pair_has_a_paper_of_one_kind(self):
        for net in (*ALL[:30], *SMALL[:60]):
            for place in net.places:
                for pair in pairs_at(net, place):
                    paper = keeping_paper(net, place, pair)
                    self.assertTrue(looks.right_keeping_paper(net, place, pair, paper))
                    self.assertIs(is_keeping_paper(net, place, pair, paper), True)
                    self.alike(paper[0], "kept" if pair in keeping_pairs(net, place) else "loses")

    def test_great_nets(self):
        for net in (CROWD, CROWD.untied("a", "b", 2)):
            for place in ("a", "e", "i"):
                for pair in pairs_at(net, place)[::5]:
                    paper = keeping_paper(net, place, pair)
                    self.assertTrue(looks.right_keeping_paper(net, place, pair, paper))
                    self.assertIs(is_keeping_paper(net, place, pair, paper), True)

    def test_told_papers(self):
        self.assertIs(is_keeping_paper(FULL, "d", ("a", "b"), LOSES), True)
        self.assertIs(is_keeping_paper(HUB, "z", ("a", "b"), KEEPS), True)
        self.alike(keeping_paper(PAIR, "a", ("b", "b")), ("kept", ()))
        self.assertIs(is_keeping_paper(PAIR, "a", ("b", "b"), ("kept", ())), True)
        self.assertIs(is_keeping_paper(HUB, "z", ("a", "b"), ("kept", ())), False)

    def test_no_paper_of_the_other_kind(self):
        for net in [net for net in SMALL if 3 <= len(net) <= 4][:25]:
            for place in net.places:
                for pair in pairs_at(net, place):
                    papers = [*self.losing_papers(net, place), *self.kept_papers(net, place, pair)]
                    right = [paper for paper in papers if is_keeping_paper(net, place, pair, paper)]
                    self.assertEqual({paper[0] for paper in right}, {"kept" if looks.does_keep(net, place, pair) else "loses"})
                    for paper in papers:
                        self.assertIs(paper in right, looks.right_keeping_paper(net, place, pair, paper))

    def losing_papers(self, net, place):
        """Papers with all lots and all pairs of places."""
        for lot in looks.all_lots(looks.others(net, place)):
            for one in looks.others(net, place):
                for other in looks.others(net, place):
                    if one != other:
                        yield "loses", one, other, family(net, one, other), lot
                        yield "loses", one, other, family(net, one, other)[1:], lot

    def kept_papers(self, net, place, pair):
        """Papers with all trees of places other than one, that tell right numbers where they can be shown."""
        places, behind = looks.others(net, place), led_past(net, place, pair)
        pairs = [(one, other) for one in places for other in places if one < other]
        for first in pairs:
            for rest in [()] if len(places) == 2 else [(second,) for second in pairs if second > first]:
                tree = [first, *rest]
                if not looks.right_branches(places, tuple(tree), 2):
                    continue
                rows = []
                for at, (one, other) in enumerate(tree):
                    side = looks.sides(places, tree, at)[0]
                    many = min(net.cut(side), net.cut(tuple(sorted((*side, place)))))
                    rows.append((one, other, many, family(behind, one, other)[:many]))
                yield "kept", tuple(rows)

    def test_papers_that_are_made_otherwise(self):
        for lot in (("a", "b"), ("a", "b", "c")):
            net, place, pair = (FULL, "d", ("a", "b"))
            for one in lot:
                for other in [other for other in looks.others(net, place) if other != one]:
                    paper = ("loses", one, other, family(net, one, other)[::-1], lot)
                    self.assertIs(is_keeping_paper(net, place, pair, paper), other not in lot)
        bigger = Net(("a", "b", "c", "z"), {("a", "b"): 4, ("a", "z"): 1, ("b", "z"): 1, ("c", "z"): 2})
        self.assertIs(is_keeping_paper(bigger, "z", ("c", "c"), ("loses", "c", "a", family(bigger, "c", "a"), ("c",))), True)
        self.assertIs(is_keeping_paper(bigger, "z", ("c", "c"), ("loses", "c", "a", family(bigger, "c", "a")[:1], ("c",))), True)
        self.assertIs(is_keeping_paper(bigger, "z", ("c", "c"), ("loses", "c", "a", (), ("c",))), False)
        self.assertIs(is_keeping_paper(bigger, "z", ("c", "c"), ("loses", "a", "c", family(bigger, "a", "c"), ("a", "b"))), False)

    def test_rows_that_tell_other_numbers(self):
        for net, place in ((HUB, "z"), (RING, "c"), *[(net, net.places[0]) for net in SMALL if len(net) > 2]):
            for pair in keeping_pairs(net, place):
                rows = keeping_paper(net, place, pair)[1]
                for at, (one, other, many, ways) in enumerate(rows):
                    if many:
                        bent = (*rows[:at], (one, other, many - 1, ways[1:]), *rows[at + 1:])
                        self.assertIs(is_keeping_paper(net, place, pair, ("kept", bent)), False)

    def test_rows_that_make_no_tree(self):
        net = Net(("a", "b", "c", "d", "z"), {("d", "z"): 2})
        rows = (("a", "b", 0, ()), ("a", "c", 0, ()), ("a", "d", 0, ()))
        self.assertIs(is_keeping_paper(net, "z", ("d", "d"), ("kept", rows)), True)
        for bent in ((*rows, ("b", "c", 0, ())), rows[:2], (*rows[:2], ("b", "c", 0, ())), (*rows, ("b", "d", 0, ()), ("c", "d", 0, ()))):
            self.assertIs(is_keeping_paper(net, "z", ("d", "d"), ("kept", bent)), False)

    def test_papers_of_others(self):
        for net, place in ((FULL, "d"), (HUB, "z"), (RING, "c"), *[(net, net.places[0]) for net in SMALL if len(net) > 2][:10]):
            for pair in pairs_at(net, place):
                for tip in net.places:
                    for two in pairs_at(net, tip):
                        paper = keeping_paper(net, tip, two)
                        self.assertIs(is_keeping_paper(net, place, pair, paper), looks.right_keeping_paper(net, place, pair, paper))

    def test_bent_papers(self):
        for net, place, pair, paper in ((FULL, "d", ("a", "b"), LOSES), (HUB, "z", ("a", "b"), KEEPS),
                                        (HUB, "z", ("a", "a"), keeping_paper(HUB, "z", ("a", "a"))),
                                        (RING, "c", ("b", "d"), keeping_paper(RING, "c", ("b", "d")))):
            for bent in looks.bends(paper):
                self.assertIs(is_keeping_paper(net, place, pair, bent), looks.right_keeping_paper(net, place, pair, bent), bent)

    def test_other_values(self):
        for value in (*STRANGE, 5, (), ("kept",), ("loses",), "kept", [*LOSES], LOSES[1:], (*LOSES, ()), ("kept", *LOSES[1:]),
                      ("loses", ()), ("Kept", KEEPS[1]), ("loses", KEEPS[1]), (True, KEEPS[1]), (FULL, ()), KEEPS[1], ("kept", [*KEEPS[1]]),
                      ("kept", KEEPS[1], ()), ("kept", KEEPS[1][::-1])):
            self.assertIs(is_keeping_paper(FULL, "d", ("a", "b"), value), False)
            self.assertIs(is_keeping_paper(HUB, "z", ("a", "b"), value), False)

    def test_true_is_not_one(self):
        path = Net(("a", "b", "c"), {("a", "b"): 1, ("b", "c"): 1})
        self.assertIs(is_keeping_paper(path, "b", ("a", "c"), ("kept", (("a", "c", 1, (("a", "c"),)),))), True)
        self.assertIs(is_keeping_paper(path, "b", ("a", "c"), ("kept", (("a", "c", True, (("a", "c"),)),))), False)

    def test_a_losing_lot_is_nearly_least(self):
        for net in SMALL[:40]:
            for place in net.places:
                for pair in pairs_at(net, place):
                    paper = keeping_paper(net, place, pair)
                    if paper[0] == "loses":
                        _, one, other, ways, lot = paper
                        self.assertIn(net.cut(lot) - number(net, one, other), (0, 1))
                        for least in least_lots(net, one, other):
                            told = ("loses", one, other, ways, least)
                            self.assertIs(is_keeping_paper(net, place, pair, told), {*pair} <= {*least} and place not in least)


if __name__ == "__main__":
    unittest.main()
