"""Cut trees: all_numbers, cut_tree, least_number, least_lot, classes, class_lots, numbers papers."""

import unittest

from keptways.base.nets import Net
from keptways.errors import InvalidNet, InvalidNumber, InvalidOperation
from keptways.ways.flows import family
from keptways.ways.trees import (all_numbers, class_lots, classes, cut_tree, is_cut_tree, is_numbers_paper, least_lot,
                                 least_number, numbers_paper)
from tests import looks
from tests.samples import (ALL, CROWD, FULL, HUB, LOOSE, NINE, NO_NETS, NO_NUMBERS, ONE, PAIR, RING, SIXTY, SMALL, STRANGE, Case,
                           drawn_nets)

TREE = (("a", "b", 2), ("a", "c", 2), ("a", "d", 2), ("a", "e", 2))


class Numbers(Case):

    def test_all_numbers(self):
        self.alike(all_numbers(HUB), {("a", "b"): 3, ("a", "c"): 3, ("a", "z"): 4, ("b", "c"): 3, ("b", "z"): 3, ("c", "z"): 3})
        self.alike((all_numbers(ONE), all_numbers(SIXTY)), ({}, {("dock", "pier"): 60}))
        for net in ALL:
            self.alike(all_numbers(net), looks.numbers(net))

    def test_least_number(self):
        self.alike((least_number(HUB), least_number(PAIR), least_number(LOOSE), least_number(RING)), (3, 4, 0, 2))
        for net in ALL:
            if len(net) == 1:
                self.refused(InvalidOperation, least_number, net)
                self.refused(InvalidOperation, least_lot, net)
            else:
                least = min(looks.numbers(net).values())
                lot = least_lot(net)
                self.alike(least_number(net), least)
                self.assertIn(lot, looks.proper_lots(net.places))
                self.alike(looks.cut(net, lot), least)

    def test_no_nets(self):
        for value in NO_NETS:
            for call, rest in ((all_numbers, ()), (cut_tree, ()), (is_cut_tree, ((),)), (least_number, ()), (least_lot, ()),
                               (classes, (None,)), (class_lots, (None,)), (numbers_paper, ()), (is_numbers_paper, (None,))):
                self.refused(InvalidNet, call, value, *rest)


class Classes(Case):

    def test_classes(self):
        self.alike([classes(HUB, k) for k in (0, 3, 4, 5)],
                   [(("a", "b", "c", "z"),)] * 2 + [(("a", "z"), ("b",), ("c",)), (("a",), ("b",), ("c",), ("z",))])
        self.alike((classes(ONE, 7), classes(SIXTY, 60), classes(SIXTY, 10 ** 60 - 1)),
                   ((("a",),), (("dock", "pier"),), (("dock",), ("pier",))))
        for net in SMALL[:60]:
            told = looks.numbers(net)
            for k in range(6):
                joined = [{one} | {other for other in net.places if told.get(tuple(sorted((one, other))), -1) >= k}
                          for one in net.places]
                self.alike(classes(net, k), tuple(sorted({tuple(sorted(lot)) for lot in joined})))

    def test_class_lots(self):
        self.alike((class_lots(ONE, 5), class_lots(SIXTY, 60), class_lots(LOOSE, 0)), ((), (), ()))
        for net in (*SMALL[:60], CROWD, NINE, SIXTY):
            for k in (0, 1, 2, 3, 4, 7, 61):
                parted, found = class_lots(net, k), classes(net, k)
                self.alike(parted, tuple(sorted({*parted})))
                self.alike(len(parted), len(found) - 1)
                self.assertTrue(all(lot in looks.proper_lots(net.places) and looks.cut(net, lot) < k for lot in parted))
                for one in found:
                    for other in found:
                        if one != other:
                            self.assertTrue(any((one[0] in lot) != (other[0] in lot) for lot in parted))

    def test_no_numbers(self):
        for value in NO_NUMBERS:
            for call in (classes, class_lots):
                self.alike(self.refused(InvalidNumber, call, FULL, value).number, value)
                self.alike(self.refused(InvalidNumber, call, ONE, value).number, value)


class Trees(Case):

    def test_cut_trees(self):
        self.alike((cut_tree(ONE), cut_tree(SIXTY), cut_tree(PAIR)), ((), (("dock", "pier", 60),), (("a", "b", 4),)))
        for net in ALL:
            rows = cut_tree(net)
            self.assertIs(is_cut_tree(net, rows), True)
            self.assertTrue(looks.right_tree(net, rows))

    def test_many_cut_trees(self):
        for net in drawn_nets(400):
            self.assertIs(is_cut_tree(net, cut_tree(net)), True)
            for many in (2, 3):
                if net.size and (net.size + 1) * many <= 60:
                    first = [*net.ties][0]
                    heavy = Net(net.places, {pair: net.ties[pair] * many - (pair == first) for pair in net.ties})
                    self.assertIs(is_cut_tree(heavy, cut_tree(heavy)), True)

    def test_the_tree_tells_all_numbers(self):
        for net in (*SMALL[:40], CROWD):
            rows = cut_tree(net)
            pairs = [row[:2] for row in rows]
            halves = [(row[2], looks.sides(net.places, pairs, at)[0]) for at, row in enumerate(rows)]
            for (one, other), many in looks.numbers(net).items():
                self.assertEqual(min(told for told, side in halves if (one in side) != (other in side)), many)

    def test_trees_that_are_made_otherwise(self):
        for tip in RING.places:
            star = tuple(sorted((*sorted((tip, other)), 2) for other in RING.places if other != tip))
            self.assertIs(is_cut_tree(RING, star), True)
        self.assertIs(is_cut_tree(RING, (("a", "b", 2), ("b", "c", 2), ("c", "d", 2), ("d", "e", 2))), True)
        self.assertIs(is_cut_tree(LOOSE, (("a", "b", 0), ("b", "c", 0))), True)
        self.assertIs(is_cut_tree(FULL, (("a", "b", 3), ("b", "c", 3), ("b", "d", 3))), True)
        self.assertIs(is_cut_tree(FULL, (("a", "b", 3), ("b", "c", 3), ("c", "d", 3))), False)

    def test_all_trees_of_small_nets(self):
        pairs = FULL.pairs
        for net in (FULL, HUB.renamed({"a": "a", "b": "b", "c": "c", "z": "d"}), *[net for net in SMALL if len(net) == 4][:8]):
            told = looks.numbers(net)
            seen = 0
            for first in pairs:
                for second in pairs:
                    for third in pairs:
                        rows = tuple((*pair, told[pair]) for pair in (first, second, third))
                        right = looks.right_tree(net, rows)
                        seen += right
                        self.assertIs(is_cut_tree(net, rows), right)
            self.assertGreater(seen, 0)

    def test_no_trees(self):
        for value in (*STRANGE, (), 5, [*TREE], TREE[:-1], (*TREE, TREE[-1]), (*TREE, ("b", "c", 2)), TREE[::-1],
                      (TREE[0], *TREE[:-1]), (("b", "a", 2), *TREE[1:]), (("a", "b", 3), *TREE[1:]), (("a", "b", "2"), *TREE[1:]),
                      (["a", "b", 2], *TREE[1:]), (("a", "b"), *TREE[1:]), (("a", "b", 2, 2), *TREE[1:]), (None, *TREE[1:]),
                      (("a", "q", 2), *TREE[1:]), (("a", "b", 2), ("a", "c", 2), ("b", "c", 2), ("d", "e", 2)), (RING, *TREE[1:])):
            self.assertIs(is_cut_tree(RING, value), False)
            self.assertIs(is_numbers_paper(RING, value), False)
        self.assertIs(is_cut_tree(RING, TREE), True)
        self.assertIs(is_cut_tree(LOOSE, (("a", "b", 0), ("a", "c", 0), ("b", "c", 0))), False)
        self.assertIs(is_cut_tree(LOOSE, (("a", "b", 0),)), False)
        self.assertIs(is_cut_tree(ONE, ()), True)
        self.assertIs(is_cut_tree(PAIR, ()), False)

    def test_true_is_not_one(self):
        path = Net(("a", "b"), {("a", "b"): 1})
        self.assertIs(is_cut_tree(path, (("a", "b", 1),)), True)
        self.assertIs(is_cut_tree(path, (("a", "b", True),)), False)
        self.assertIs(is_cut_tree(Net(("a", "b")), (("a", "b", False),)), False)
        self.assertIs(is_numbers_paper(path, ((("a", "b", True), (("a", "b"),)),)), False)

    def test_bent_trees(self):
        for net in (RING, HUB, PAIR, *SMALL[:8]):
            for bent in looks.bends(cut_tree(net)):
                self.assertIs(is_cut_tree(net, bent), looks.right_tree(net, bent), bent)


class Papers(Case):

    def test_papers(self):
        self.alike(numbers_paper(ONE), ())
        for net in ALL:
            paper = numbers_paper(net)
            self.assertTrue(self.right(net, paper))
            self.assertIs(is_numbers_paper(net, paper), True)

    def right(self, net, value):
        if not isinstance(value, tuple) or not all(isinstance(item, tuple) and len(item) == 2 for item in value):
            return False
        return looks.right_tree(net, tuple(row for row, _ in value)) and all(
            looks.right_family(net, *row[:2], ways) and len(ways) == row[2] for row, ways in value)

    def test_papers_that_are_made_otherwise(self):
        paper = tuple((row, family(RING, *row[:2])[::-1]) for row in TREE)
        self.assertIs(is_numbers_paper(RING, paper), True)
        self.assertIs(is_numbers_paper(RING, paper[::-1]), False)
        self.assertIs(is_numbers_paper(RING, [*paper]), False)
        turned = tuple((row, tuple(way[::-1] for way in ways)) for row, ways in paper)
        self.assertIs(is_numbers_paper(RING, turned), False)

    def test_bent_papers(self):
        for net in (RING, PAIR, *SMALL[:6]):
            for bent in looks.bends(numbers_paper(net)):
                self.assertIs(is_numbers_paper(net, bent), self.right(net, bent), bent)


if __name__ == "__main__":
    unittest.main()
