"""Ends of new ties: lacks, ends that suffice, ends papers, new ties, least ends, the bound by lots."""

import random
import unittest
from itertools import permutations

from keptways.base.nets import Net
from keptways.errors import InvalidLot, InvalidNet, InvalidNumber, InvalidOperation, InvalidRow
from keptways.more.rows import (does_suffice, ends_of, ends_paper, fewest_ends, greatest_lacks, is_ends, is_ends_paper, is_lots_bound,
                                is_new_ties, lack, lacking_lots, least_ends, lots_bound, with_new)
from tests import looks, looks_new
from tests.samples import (ALL, CROWD, FULL, HUB, LETTERS, LOOSE, NINE, NO_LOTS, NO_NETS, NO_NUMBERS, ONE, PAIR, RING, SIXTY, SMALL,
                           STRANGE,
                           Case)

PATH = Net(("a", "b", "c"), {("a", "b"): 1, ("b", "c"): 1})
FOLDS = range(2, 10)
NO_FOLDS = (*NO_NUMBERS, 0, 1, 10, 10 ** 60 - 1)
NO_ENDS = (*STRANGE, 0, 1, (), "q", PATH, {"a": 1, "b": 1}, {"a": 1, "b": 1, "c": 1, "d": 1}, {"a": 1, "b": 1, "d": 1},
           {"a": 1, "b": 1, "c": -1},
           {"a": 1, "b": 1, "c": 61}, {"a": 1, "b": 1, "c": True}, {"a": 1, "b": 1, "c": None}, {"a": 1, "b": 1, "c": "1"},
           {"a": 1, "b": 1, "c": 10 ** 60}, (("a", 1), ("b", 1), ("c", 1)), [1, 1, 1], {"a": 1, "b": 1, (1, (2,)): 1},
           {"a": [1], "b": 1, "c": 1})
NO_NEW_TIES = (*STRANGE, 1, "ab", ("a", "b"), (("b", "a"),), (("a", "b"), ("a", "a")), (("b", "c"), ("a", "b")), [("a", "b")],
               (["a", "b"],),
               (("a", "q"),), (("q", "q"),), (("a", "b", "c"),), (("a",),), (("a", "b"), None), {("a", "b"): 1}, (("a", 1),),
               ((True, True),), PATH)
TINY = [net for net in (PATH, PAIR, LOOSE, FULL, HUB, *SMALL) if 2 <= len(net) <= 4][:24]
HALF_FULL = Net(tuple(LETTERS), looks.counted([(one, other) for one, other in NINE.pairs if "i" not in (one, other)] * 2 + [("a",
                                                                                                                             "b")] * 4))


def drawn_ends(net, seed, most):
    draw = random.Random(seed)
    return {place: draw.randint(0, most) for place in net.places}


def drawn_new_ties(net, seed, many):
    draw = random.Random(seed)
    return tuple(sorted(tuple(sorted(draw.choices(net.places, k=2))) for _ in range(many)))


class Ends(Case):

    def test_is_ends(self):
        for value in ({"a": 0, "b": 60, "c": 1}, {"c": 1, "a": 2, "b": 3}):
            self.assertIs(is_ends(PATH, value), True)
        for value in NO_ENDS:
            self.assertIs(is_ends(PATH, value), False, value)
        self.assertIs(is_ends(ONE, {"a": 0}), True)
        self.assertIs(is_ends(ONE, {}), False)
        for bent in looks.bends({"a": 0, "b": 60, "c": 1}):
            self.assertIs(is_ends(PATH, bent), looks_new.right_ends(PATH, bent), bent)

    def test_is_new_ties(self):
        for value in ((), (("a", "b"),), (("a", "b"), ("a", "b"), ("b", "b"), ("b", "c")), (("c", "c"),) * 99):
            self.assertIs(is_new_ties(PATH, value), True)
        for value in NO_NEW_TIES:
            self.assertIs(is_new_ties(PATH, value), False, value)
        for bent in looks.bends((("a", "a"), ("a", "b"), ("b", "c"), ("b", "c"))):
            self.assertIs(is_new_ties(PATH, bent), looks_new.right_new_ties(PATH, bent), bent)
        self.assertIs(is_new_ties(ONE, (("a", "a"),)), True)

    def test_ends_of(self):
        self.alike(ends_of(PATH, (("a", "a"), ("a", "b"), ("b", "c"), ("b", "c"))), {"a": 3, "b": 3, "c": 2})
        self.alike((ends_of(PATH, ()), ends_of(ONE, (("a", "a"),) * 30)), ({"a": 0, "b": 0, "c": 0}, {"a": 60}))
        for seed, net in enumerate(ALL[:40]):
            new_ties = drawn_new_ties(net, seed, seed % 20)
            self.alike(ends_of(net, new_ties), looks_new.counted_ends(net, new_ties))
        for value in NO_NEW_TIES:
            self.refused(InvalidOperation, ends_of, PATH, value)
        self.refused(InvalidRow, ends_of, PATH, (("a", "a"),) * 31)
        self.refused(InvalidRow, ends_of, PATH, (("a", "b"),) * 61)
        self.refused(InvalidOperation, ends_of, PATH, (("a", "b"),) * 61 + (("a", "a"),))

    def test_with_new(self):
        self.alike(with_new(PATH, (("a", "a"), ("a", "c"), ("a", "c"), ("b", "c"))).ties, {("a", "b"): 1, ("a", "c"): 2, ("b", "c"): 2})
        self.alike(with_new(PAIR, (("a", "b"),) * 56).size, 60)
        self.alike(with_new(PAIR, (("a", "a"),) * 99 + (("a", "b"),) + (("b", "b"),) * 99).size, 5)
        for seed, net in enumerate(ALL[:40]):
            new_ties = drawn_new_ties(net, seed, seed % 20)
            made = looks_new.behind(net, new_ties)
            if made is None:
                self.refused(InvalidNet, with_new, net, new_ties)
            else:
                self.alike(with_new(net, new_ties).lines, made.lines)
        for value in NO_NEW_TIES:
            self.refused(InvalidOperation, with_new, PATH, value)
        self.refused(InvalidNet, with_new, PAIR, (("a", "b"),) * 57)
        self.refused(InvalidNet, with_new, SIXTY, (("dock", "pier"),) * 61)
        self.refused(InvalidOperation, with_new, PAIR, (("a", "b"),) * 57 + (("a", "a"),))
        self.alike(with_new(SIXTY, (("dock", "dock"),)).lines, SIXTY.lines)

    def test_no_nets(self):
        for call, more in ((is_ends, (None,)), (is_new_ties, (None,)), (lack, (None, None)), (greatest_lacks, (None,)),
                           (does_suffice, (None, None)), (lacking_lots, (None, None)), (ends_paper, (None, None)),
                           (is_ends_paper, (None, None, None)), (ends_of, (None,)), (with_new, (None,)), (least_ends, (None, None)),
                           (fewest_ends, (None,)), (lots_bound, (None,)), (is_lots_bound, (None, None))):
            for value in NO_NETS:
                self.refused(InvalidNet, call, value, *more)

    def test_no_folds(self):
        for call, more in ((lack, (None,)), (greatest_lacks, ()), (does_suffice, (None,)), (lacking_lots, (None,)), (ends_paper, (None,)),
                           (is_ends_paper, (None, None)), (least_ends, (None,)), (fewest_ends, ()), (lots_bound, ()),
                           (is_lots_bound, (None,))):
            for value in NO_FOLDS:
                self.alike(self.refused(InvalidNumber, call, PATH, value, *more).number, value)

    def test_no_ends(self):
        for call, more in ((does_suffice, ()), (lacking_lots, ()), (ends_paper, ()), (is_ends_paper, (None,))):
            for value in NO_ENDS:
                self.refused(InvalidRow, call, PATH, 2, value, *more)


class Lacks(Case):

    def test_lack(self):
        self.alike((lack(PATH, 2, ("a",)), lack(PATH, 2, ("b",)), lack(PATH, 9, ("a",)), lack(PATH, 2, ()), lack(PATH, 3, PATH.places)),
                   (1, 0, 8, 2, 3))
        for net in SMALL[:30]:
            for fold in FOLDS:
                for lot in looks.all_lots(net.places):
                    self.alike(lack(net, fold, lot), looks_new.lack(net, fold, lot))
        for value in NO_LOTS:
            self.refused(InvalidLot, lack, FULL, 2, value)

    def test_greatest_lacks(self):
        self.alike((greatest_lacks(PATH, 2), greatest_lacks(ONE, 9), greatest_lacks(SIXTY, 9)),
                   ((("a",), ("a", "b"), ("b", "c"), ("c",)), (), (("dock",), ("pier",))))
        for net in (*SMALL[:40], CROWD):
            for fold in FOLDS:
                told = looks_new.lacks(net, fold)
                self.alike(greatest_lacks(net, fold), tuple(lot for lot in told if told[lot] == max(told.values())))

    def test_lacking_lots(self):
        self.alike(lacking_lots(PATH, 2, {"a": 1, "b": 1, "c": 0}), (("c",),))
        self.alike((lacking_lots(ONE, 9, {"a": 0}), does_suffice(ONE, 9, {"a": 0})), ((), True))
        for seed, net in enumerate(SMALL[:60]):
            for fold in FOLDS:
                ends = drawn_ends(net, seed + fold, seed % 8)
                lots = looks_new.below(looks_new.lacks(net, fold), ends)
                self.alike(lacking_lots(net, fold, ends), lots)
                self.assertIs(does_suffice(net, fold, ends), not lots)


class Papers(Case):

    def test_told_papers(self):
        self.alike([ends_paper(PATH, 2, {"a": 1, "b": 0, "c": 1}), ends_paper(PATH, 2, {"a": 1, "b": 1, "c": 1})],
                   [("met", (("a", "c"),)), ("odd",)])
        self.alike((ends_paper(PATH, 2, {"a": 0, "b": 0, "c": 2}), ends_paper(ONE, 9, {"a": 0})), (("lacks", ("a",)), ("met", ())))
        self.alike(ends_paper(ONE, 2, {"a": 2}), ("met", (("a", "a"),)))
        self.alike(ends_paper(ONE, 2, {"a": 1}), ("odd",))

    def test_papers(self):
        kinds = []
        for seed, net in enumerate((*SMALL[:80], *TINY)):
            for fold in FOLDS:
                ends = drawn_ends(net, seed + fold, fold)
                paper = ends_paper(net, fold, ends)
                kinds.append(paper[0])
                self.assertTrue(looks_new.right_ends_paper(net, fold, ends, paper), paper)
                self.assertIs(is_ends_paper(net, fold, ends, paper), True)
                odd, lots = sum(ends.values()) % 2 == 1, looks_new.below(looks_new.lacks(net, fold), ends)
                self.assertIs(is_ends_paper(net, fold, ends, ("odd",)), odd)
                for lot in looks.all_lots(net.places):
                    self.assertIs(is_ends_paper(net, fold, ends, ("lacks", lot)), lot in lots)
                self.assertEqual(paper[0] == "met", not odd and not lots)
        self.assertGreater(min(kinds.count(word) for word in ("met", "odd", "lacks")), 50)

    def test_met_papers_of_least_ends(self):
        for net in (*ALL[:60], NINE):
            for fold in (2, 3, 5, 9):
                ends = least_ends(net, fold, net.places)
                ends[net.places[-1]] += sum(ends.values()) % 2
                if net.size + sum(ends.values()) // 2 <= 60:
                    kind, new_ties = ends_paper(net, fold, ends)
                    self.assertTrue(kind == "met" and looks_new.right_fold(net, fold, new_ties))
                    self.alike(looks_new.counted_ends(net, new_ties), ends)

    def test_papers_made_otherwise(self):
        ends = {"a": 2, "b": 2, "c": 2}
        for new_ties in ((("a", "b"), ("a", "c"), ("b", "c")), (("a", "c"), ("a", "c"), ("b", "b"))):
            self.assertIs(is_ends_paper(PATH, 2, ends, ("met", new_ties)), True)
        for value in (("met", (("a", "a"), ("b", "b"), ("c", "c"))), ("met", (("a", "a"), ("b", "c"), ("b", "c"))), ("met", (("a", "c"),)),
                      ("met", (("a", "b"), ("b", "c"), ("a", "c"))), ("met", (("a", "b"), ("a", "c"), ("b", "c"), ("c", "c"))), ("odd",),
                      ("odd", ()),
                      ("lacks", ("a",)), ("lacks", ()), ("met", None), ("met",), ["met", (("a", "b"), ("a", "c"), ("b", "c"))], "odd",
                      ("Odd",)):
            self.assertIs(is_ends_paper(PATH, 2, ends, value), False, value)
        for value in (*STRANGE, 5, (), (None, None), PATH):
            self.assertIs(is_ends_paper(PATH, 2, ends, value), False)
        odd = {"a": 0, "b": 0, "c": 1}
        for value, told in ((("odd",), True), (("lacks", ("a",)), True), (("lacks", ("c",)), False), (("lacks", ("a", "b")), True),
                            (("lacks", ("b",)), False), (("lacks", ("b", "c")), False), (["odd"], False), (("odd", "odd"), False)):
            self.assertIs(is_ends_paper(PATH, 2, odd, value), told, value)

    def test_bent_papers(self):
        for ends in ({"a": 2, "b": 2, "c": 2}, {"a": 1, "b": 0, "c": 0}, {"a": 1, "b": 1, "c": 1}, {"a": 0, "b": 0, "c": 2}):
            for bent in looks.bends(ends_paper(PATH, 2, ends)):
                self.assertIs(is_ends_paper(PATH, 2, ends, bent), looks_new.right_ends_paper(PATH, 2, ends, bent), bent)

    def test_more_than_sixty_ties(self):
        ends = {**dict.fromkeys(LETTERS[:8], 0), "i": 2, "a": 2}
        self.alike(HALF_FULL.size, 60)
        self.refused(InvalidNet, ends_paper, HALF_FULL, 2, ends)
        self.refused(InvalidRow, ends_paper, HALF_FULL, 2, {**ends, "i": 61})
        self.assertIs(is_ends_paper(HALF_FULL, 2, ends, ("met", (("a", "i"), ("a", "i")))), False)
        self.alike((ends_paper(HALF_FULL, 2, {**ends, "a": 3}), ends_paper(HALF_FULL, 2, {**ends, "i": 0})), (("odd",), ("lacks", ("i",))))
        less = HALF_FULL.untied("a", "b", 2)
        self.alike(ends_paper(less, 2, ends), ("met", (("a", "i"), ("a", "i"))))
        self.assertIs(is_ends_paper(less, 2, ends, ("met", (("a", "i"), ("a", "i")))), True)
        # Pairs of one place put nothing in.
        many = dict.fromkeys(SIXTY.places, 60)
        self.alike(ends_paper(SIXTY, 9, many)[0], "met")
        self.assertTrue(looks_new.right_ends_paper(CROWD, 2, dict.fromkeys(LETTERS, 60), ends_paper(CROWD, 2, dict.fromkeys(LETTERS, 60))))


class Fewest(Case):

    def test_least_ends(self):
        self.alike((least_ends(PATH, 3, ("c", "b", "a")), least_ends(PATH, 3, ("a", "b", "c")), least_ends(ONE, 9, ("a",))),
                   ({"a": 2, "b": 1, "c": 2}, {"a": 2, "b": 1, "c": 2}, {"a": 0}))
        # In another order other ends come.
        net = Net(("a", "b", "c", "d"), {("a", "b"): 3, ("c", "d"): 3})
        self.alike((least_ends(net, 2, ("a", "b", "c", "d")), least_ends(net, 2, ("d", "a", "c", "b"))),
                   ({"a": 0, "b": 2, "c": 0, "d": 2}, {"a": 0, "b": 2, "c": 2, "d": 0}))
        for net in TINY[:12]:
            for fold in (2, 3, 5):
                told = looks_new.lacks(net, fold)
                for order in permutations(net.places):
                    ends = dict.fromkeys(net.places, fold)
                    for place in order:
                        ends[place] = min(many for many in range(fold + 1) if not looks_new.below(told, {**ends, place: many}))
                    self.alike(least_ends(net, fold, order), ends)
                    self.alike(sum(ends.values()), fewest_ends(net, fold))

    def test_no_orders(self):
        for value in (*STRANGE, 1, (), ("a", "b"), ("a", "b", "b"), ("a", "b", "c", "c"), ("a", "b", "c", "d"), ["a", "b", "c"], "abc",
                      ("a", "b", "q"),
                      {"a": 1, "b": 2, "c": 3}, (("a",), ("b",), ("c",)), ("a", "b", None), PATH):
            self.refused(InvalidOperation, least_ends, PATH, 2, value)

    def test_fewest_ends(self):
        self.alike((fewest_ends(PATH, 2), fewest_ends(ONE, 9), fewest_ends(SIXTY, 9), fewest_ends(NINE, 9), fewest_ends(LOOSE, 2)),
                   (2, 0, 0, 81, 6))
        for net in TINY:
            for fold in (2, 3, 4):
                told = looks_new.lacks(net, fold)
                self.alike(fewest_ends(net, fold), min(sum(ends.values()) for ends in looks_new.enough(net, told, fold)))

    def test_lots_bound(self):
        self.alike((lots_bound(ONE, 9), lots_bound(SIXTY, 9), lots_bound(LOOSE, 4)), ((0, ()), (0, ()), (12, (("a",), ("b",), ("c",)))))
        for net in [net for net in SMALL if len(net) <= 5][:40]:
            for fold in FOLDS:
                told = looks_new.lacks(net, fold)
                bound = lots_bound(net, fold)
                self.alike(bound[0], looks_new.greatest_row_sum(told, net.places))
                self.alike(bound[0], fewest_ends(net, fold))
                self.assertTrue(looks_new.right_row(net.places, bound[1]))
                self.alike(looks_new.row_sum(told, bound[1]), bound[0])
                self.assertIs(is_lots_bound(net, fold, bound), True)
        for net in (NINE, CROWD, *ALL[:60]):
            for fold in (2, 9):
                bound = lots_bound(net, fold)
                self.assertTrue(looks_new.right_row(net.places, bound[1]))
                self.alike(sum(looks_new.lack(net, fold, lot) for lot in bound[1]), bound[0])
                self.alike(sum(least_ends(net, fold, net.places[::-1]).values()), bound[0])

    def test_is_lots_bound(self):
        self.assertIs(is_lots_bound(PATH, 2, (2, (("a",), ("c",)))), True)
        for net in TINY[:10]:
            for fold in (2, 3):
                told = looks_new.lacks(net, fold)
                least = looks_new.greatest_row_sum(told, net.places)
                for row in looks_new.proper_rows(net.places):
                    self.assertIs(is_lots_bound(net, fold, (least, row)), looks_new.row_sum(told, row) == least)
                    self.assertIs(is_lots_bound(net, fold, (looks_new.row_sum(told, row), row)), looks_new.row_sum(told, row) == least)
        for bent in looks.bends((2, (("a",), ("c",)))):
            self.assertIs(is_lots_bound(PATH, 2, bent), self.right_bound(bent), bent)
        for value in (*STRANGE, 2, (), (2,), (2, ()), (2, None), (0, ()), [2, (("a",), ("c",))], (2, [("a",), ("c",)]),
                      (2, (("a",), ("a", "b"))), PATH):
            self.assertIs(is_lots_bound(PATH, 2, value), False)
        self.assertIs(is_lots_bound(PAIR, 2, (0, ())), True)
        self.assertIs(is_lots_bound(PAIR, 2, (False, ())), False)
        self.assertIs(is_lots_bound(PAIR, 5, (2, (("a",), ("b",)))), True)

    def right_bound(self, value):
        return (isinstance(value, tuple) and len(value) == 2 and looks.is_number(value[0]) and value[0] == 2
                and looks_new.right_row(PATH.places, value[1]) and looks_new.row_sum(looks_new.lacks(PATH, 2), value[1]) == 2)

    def test_nothing_handed_in_is_changed(self):
        ends = {"c": 1, "a": 1, "b": 0}
        ends_paper(PATH, 2, ends)
        lacking_lots(PATH, 2, ends)
        self.alike(ends, {"c": 1, "a": 1, "b": 0})
        least_ends(PATH, 2, PATH.places)["a"] = 50
        self.alike(least_ends(PATH, 2, PATH.places), {"a": 1, "b": 0, "c": 1})
        self.assertEqual(RING.size, 5)


if __name__ == "__main__":
    unittest.main()
