"""Class CutTree."""

import operator
import unittest

from keptways.base.nets import Net
from keptways.errors import InvalidNet, InvalidNumber, InvalidWays, UnknownPlace
from keptways.ways.trees import CutTree, all_numbers, cut_tree, is_cut_tree
from tests import looks
from tests.samples import (ALL, CROWD, FULL, HUB, LOOSE, NINE, NO_NETS, NO_NUMBERS, NO_PLACES, ONE, PAIR, RING, SIXTY, SMALL,
                           STRANGE, Case)

CHAIN = (("a", "b", 2), ("b", "c", 2), ("c", "d", 2), ("d", "e", 2))
STAR = (("a", "b", 2), ("a", "c", 2), ("a", "d", 2), ("a", "e", 2))
PATH = Net(("a", "b", "c", "d"), {("a", "b"): 3, ("b", "c"): 1, ("c", "d"): 2})
ROWS = (("a", "b", 3), ("b", "c", 1), ("c", "d", 2))


class Told(Case):

    def test_properties(self):
        for net in ALL[:30]:
            tree = CutTree(net)
            self.assertTrue(tree.net == net)
            self.assertTrue(looks.right_tree(net, tree.triples))
        self.alike((CutTree(RING, CHAIN).triples, CutTree(RING, rows=STAR).triples, CutTree(ONE, ()).triples), (CHAIN, STAR, ()))

    def test_refused(self):
        for value in NO_NETS:
            self.refused(InvalidNet, CutTree, value)
            self.refused(InvalidNet, CutTree, value, 5)
        for value in (*STRANGE[1:], (), 0, [*CHAIN], CHAIN[::-1], CHAIN[:3], (("a", "b", True), *CHAIN[1:])):
            self.refused(InvalidWays, CutTree, RING, value)
        self.refused(InvalidWays, CutTree, FULL, CHAIN)
        self.alike(CutTree(RING, None).triples, cut_tree(RING))

    def test_number_of(self):
        for net in (*SMALL[:40], CROWD):
            tree = CutTree(net)
            for (one, other), many in all_numbers(net).items():
                self.alike((tree.number_of(one, other), tree.number_of(other, one)), (many, many))

    def test_way(self):
        tree = CutTree(RING, CHAIN)
        self.alike((tree.way("b", "e"), tree.way("e", "b"), tree.way("a", "b")), (CHAIN[1:], CHAIN[:0:-1], CHAIN[:1]))
        self.alike(CutTree(RING, STAR).way("d", "b"), (STAR[2], STAR[0]))
        for net in SMALL[:40]:
            tree = CutTree(net)
            pairs = [row[:2] for row in tree.triples]
            for one in net.places:
                for other in net.places:
                    if one != other:
                        way = tree.way(one, other)
                        here = one
                        for row in way:
                            self.assertIn(here, row[:2])
                            here = row[1] if row[0] == here else row[0]
                        self.assertEqual(here, other)
                        parting = [at for at in range(len(pairs)) if len({*looks.sides(net.places, pairs, at)[0]} & {one, other}) == 1]
                        self.alike(sorted(way), [tree.triples[at] for at in parting])

    def test_narrowest(self):
        tree = CutTree(PATH, ROWS)
        self.alike((tree.narrowest("a", "d"), tree.narrowest("d", "a"), tree.narrowest("c", "d"), tree.narrowest("d", "c")),
                   (("a", "b"), ("c", "d"), ("a", "b", "c"), ("d",)))
        tree = CutTree(RING, CHAIN)
        self.alike((tree.narrowest("b", "e"), tree.narrowest("e", "b")), (("a", "b"), ("e",)))
        for net in SMALL[:40]:
            tree = CutTree(net)
            pairs = [row[:2] for row in tree.triples]
            for one in net.places:
                for other in net.places:
                    if one != other:
                        way = tree.way(one, other)
                        row = [row for row in way if row[2] == min(row[2] for row in way)][0]
                        sides = looks.sides(net.places, pairs, tree.triples.index(row))
                        self.alike(tree.narrowest(one, other), [side for side in sides if one in side][0])

    def test_side(self):
        self.alike([CutTree(PATH, ROWS).side(at) for at in range(3)], [("a",), ("a", "b"), ("a", "b", "c")])
        self.alike([CutTree(RING, STAR).side(at) for at in (0, 3)], [("a", "c", "d", "e"), ("a", "b", "c", "d")])
        for net in (*SMALL[:40], NINE):
            tree = CutTree(net)
            pairs = [row[:2] for row in tree.triples]
            self.alike([tree.side(at) for at in range(len(tree))], [looks.sides(net.places, pairs, at)[0] for at in range(len(pairs))])

    def test_families(self):
        for net in (*ALL[:40], CROWD, SIXTY):
            tree = CutTree(net)
            found = tree.families()
            self.assertIs(iter(found), found)
            shown = list(found)
            self.alike(len(shown), len(tree))
            for (one, other, many), ways in zip(tree.triples, shown):
                self.assertTrue(looks.right_family(net, one, other, ways))
                self.alike(len(ways), many)

    def test_is_tree_of(self):
        tree = CutTree(RING, CHAIN)
        self.assertIs(tree.is_tree_of(RING), True)
        self.assertIs(tree.is_tree_of(RING.joined("a", "b").joined("b", "c")), False)
        self.assertIs(tree.is_tree_of(Net(RING.places, {(one, other): 2 for one, other, _ in CHAIN})), True)
        self.assertIs(tree.is_tree_of(FULL), False)
        self.assertIs(CutTree(ONE).is_tree_of(Net(("dock",))), True)
        for net in SMALL[:20]:
            for other in SMALL[:20]:
                self.assertIs(CutTree(net).is_tree_of(other), is_cut_tree(other, cut_tree(net)))
        for value in NO_NETS:
            self.refused(InvalidNet, tree.is_tree_of, value)

    def test_unknown_places(self):
        for net in (FULL, ONE, LOOSE):
            tree = CutTree(net)
            for call in (tree.number_of, tree.way, tree.narrowest):
                for value in NO_PLACES:
                    self.alike(self.refused(UnknownPlace, call, value, None).asked, value)
                    self.alike(self.refused(UnknownPlace, call, "a", value).asked, value)
                self.alike(self.refused(UnknownPlace, call, "a", "a").asked, "a")

    def test_no_index(self):
        for tree in (CutTree(RING), CutTree(PAIR)):
            for value in (*NO_NUMBERS, len(tree), -1, 10 ** 60 - 1):
                self.alike(self.refused(InvalidNumber, tree.side, value).number, value)
                self.alike(self.refused(InvalidNumber, operator.getitem, tree, value).number, value)
        self.alike(self.refused(InvalidNumber, CutTree(ONE).side, 0).number, 0)


class Signs(Case):

    def test_items(self):
        tree = CutTree(RING, CHAIN)
        self.alike((tree[0], tree[3], len(tree), list(tree), tuple(tree)), (CHAIN[0], CHAIN[3], 4, [*CHAIN], CHAIN))
        self.alike((len(CutTree(ONE)), list(CutTree(ONE)), len(CutTree(NINE))), (0, [], 8))

    def test_in(self):
        tree = CutTree(PATH, ROWS)
        for row in ROWS:
            self.assertIs(row in tree, True)
        for value in (*STRANGE, (), 1, ["b", "c", 1], ("b", "c"), ("b", "c", True), ("c", "b", 1), ("b", "c", 2), ROWS, tree,
                      ("b", "c", 1, 1), ("b", "c", "1")):
            self.assertIs(value in tree, False)

    def test_equal(self):
        tree = CutTree(RING, CHAIN)
        self.assertIs(tree == CutTree(Net(RING.places, RING.ties), tuple(CHAIN)), True)
        self.assertIs(tree != CutTree(RING, CHAIN), False)
        other = Net(RING.places, {(one, other): 2 for one, other, _ in CHAIN})
        for value in (*STRANGE, 4, CHAIN, list(CHAIN), RING, CutTree(RING, STAR), CutTree(other, CHAIN), str(tree), (tree,)):
            self.assertIs(tree == value, False)
            self.assertIs(value == tree, False)
            self.assertIs(tree != value, True)

    def test_text(self):
        self.alike([str(CutTree(net)) for net in (ONE, PAIR, HUB, LOOSE, SIXTY)],
                   ["no cuts", "1 cuts, the least 4", "3 cuts, the least 3", "2 cuts, the least 0", "1 cuts, the least 60"])
        self.alike(str(CutTree(PATH)), "3 cuts, the least 1")

    def test_never_changes(self):
        tree = CutTree(RING, CHAIN)
        for name in ("net", "triples"):
            with self.assertRaises(AttributeError):
                setattr(tree, name, 1)
        with self.assertRaises(TypeError):
            operator.setitem(tree, 0, 1)
        self.alike((tree.triples, tree.net.lines), (CHAIN, RING.lines))


if __name__ == "__main__":
    unittest.main()
