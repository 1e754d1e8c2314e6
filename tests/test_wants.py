"""Wants: is_wants, wanted cuts, first_unmet, ends that serve, the fewest new ties for wants, papers of both kinds."""

import random
import unittest
from itertools import permutations

from keptways.base.nets import Net
from keptways.errors import InvalidLot, InvalidNet, InvalidOperation, InvalidRow
from keptways.more.rows import does_suffice, ends_paper, least_ends
from keptways.more.ties import fewest_ties
from keptways.more.wants import (are_met, do_serve, fewest_for, first_unmet, is_wants, is_wants_ends_paper, is_wants_paper, serving_ends,
                                 short_by, wanted_cut, wants_ends_paper, wants_paper)
from tests import looks, looks_new
from tests.samples import ALL, CROWD, FULL, HUB, LETTERS, LOOSE, NINE, NO_LOTS, NO_NETS, ONE, PAIR, RING, SIXTY, SMALL, STRANGE, Case
from tests.test_rows import HALF_FULL, NO_ENDS, PATH, TINY, drawn_ends

TWICE = Net(("a", "b", "c"), {("a", "b"): 2, ("b", "c"): 2})
THREE = {("a", "b"): 2, ("a", "c"): 3, ("b", "c"): 2}
NO_WANTS = (*STRANGE, 0, 1, (), "q", TWICE, {}, {("a", "b"): 2, ("a", "c"): 3}, {**THREE, ("b", "d"): 2}, {**THREE, ("b", "a"): 2},
            {("b", "a"): 2, ("a", "c"): 3, ("b", "c"): 2}, {**THREE, ("a", "b"): 1}, {**THREE, ("a", "b"): 10}, {**THREE, ("a", "b"): True},
            {**THREE, ("a", "b"): None}, {**THREE, ("a", "b"): "2"}, {**THREE, ("a", "b"): 0}, {**THREE, ("a", "b"): 10 ** 60},
            {"ab": 2, "ac": 3, "bc": 2},
            tuple(THREE.items()), list(THREE), {("a", "b"): 2, ("a", "c"): 3, (1, (2,)): 2}, {("a", "b"): 2, ("a", "c"): 3,
                                                                                              ("b", "b"): 2}, {**THREE, ("a", "b"): [2]})


def drawn_wants(net, seed):
    draw = random.Random(seed)
    kinds = ((2, 3), range(2, 10), (2, 2, 2, 9), (5,), (2, 4), (2, 2, 2, 3))
    return {pair: draw.choice(kinds[seed % len(kinds)]) for pair in net.pairs}


def right_wants_paper(net, wants, value):
    if not isinstance(value, tuple) or len(value) != 2:
        return False
    return (looks_new.meets(net, wants, value[0]) and looks_new.right_row(net.places, value[1])
            and len(value[0]) == (looks_new.row_sum(looks_new.shorts(net, wants), value[1]) + 1) // 2)


def right_wants_ends_paper(net, wants, ends, value):
    if not isinstance(value, tuple) or not value or not isinstance(value[0], str):
        return False
    if value[0] == "odd":
        return len(value) == 1 and sum(ends.values()) % 2 == 1
    if len(value) != 2:
        return False
    if value[0] == "met":
        return looks_new.meets(net, wants, value[1]) and looks_new.counted_ends(net, value[1]) == ends
    return value[0] == "lacks" and isinstance(value[1], tuple) and value[1] in looks_new.below(looks_new.shorts(net, wants), ends)


class Asked(Case):

    def test_is_wants(self):
        for value in (THREE, dict(reversed(THREE.items())), dict.fromkeys(TWICE.pairs, 9)):
            self.assertIs(is_wants(TWICE, value), True)
        for value in NO_WANTS:
            self.assertIs(is_wants(TWICE, value), False, value)
        self.assertIs(is_wants(ONE, {}), True)
        self.assertIs(is_wants(ONE, {("a", "b"): 2}), False)
        self.assertIs(is_wants(ONE, ()), False)
        for bent in looks.bends(THREE):
            self.assertIs(is_wants(TWICE, bent), looks_new.right_wants(TWICE, bent), bent)

    def test_wanted_cuts_and_shorts(self):
        self.alike((wanted_cut(TWICE, THREE, ("b",)), wanted_cut(TWICE, THREE, ("a", "b")), short_by(TWICE, THREE, ("a",)),
                    short_by(TWICE, THREE, ("b",))),
                   (2, 3, 1, 0))
        for seed, net in enumerate(SMALL[:60]):
            wants = drawn_wants(net, seed)
            told = looks_new.shorts(net, wants)
            for lot in looks.proper_lots(net.places):
                self.alike((wanted_cut(net, wants, lot), short_by(net, wants, lot)), (looks_new.wanted_cut(wants, lot), told[lot]))
        for call in (wanted_cut, short_by):
            for value in (*NO_LOTS, (), TWICE.places):
                self.refused(InvalidLot, call, TWICE, THREE, value)
            for value in ((), ("a",)):
                self.refused(InvalidLot, call, ONE, {}, value)

    def test_unmet(self):
        self.alike((are_met(TWICE, THREE), first_unmet(TWICE, THREE), are_met(ONE, {}), first_unmet(ONE, {})),
                   (False, ("a", "c"), True, None))
        found = []
        for seed, net in enumerate(ALL[:120]):
            wants = drawn_wants(net, seed)
            told = looks.numbers(net)
            unmet = [pair for pair in sorted(told) if told[pair] < wants[pair]]
            self.alike(first_unmet(net, wants), unmet[0] if unmet else None)
            self.assertIs(are_met(net, wants), not unmet)
            found.append(bool(unmet))
        self.assertTrue(True in found and False in found)
        self.assertIs(are_met(TWICE, {**THREE, ("a", "c"): 2}), True)

    def test_refused(self):
        for call, more in ((is_wants, ()), (wanted_cut, (None,)), (short_by, (None,)), (are_met, ()), (first_unmet, ()),
                           (do_serve, (None,)),
                           (serving_ends, (None,)), (fewest_for, ()), (wants_paper, ()), (is_wants_paper, (None,)),
                           (wants_ends_paper, (None,)),
                           (is_wants_ends_paper, (None, None))):
            for value in NO_NETS:
                self.refused(InvalidNet, call, value, None, *more)
            if call is not is_wants:
                for value in NO_WANTS:
                    self.refused(InvalidRow, call, TWICE, value, *more)
        for call, more in ((do_serve, ()), (wants_ends_paper, ()), (is_wants_ends_paper, (None,))):
            for value in NO_ENDS:
                self.refused(InvalidRow, call, TWICE, THREE, value, *more)
            for value in NO_WANTS:
                self.refused(InvalidRow, call, TWICE, value, {"a": 1, "b": 0, "c": 1}, *more)


class Served(Case):

    def test_do_serve(self):
        self.alike((do_serve(TWICE, THREE, {"a": 1, "b": 0, "c": 1}), do_serve(TWICE, THREE, {"a": 1, "b": 1, "c": 0}),
                    do_serve(ONE, {}, {"a": 0})), (True, False, True))
        for seed, net in enumerate(SMALL[:80]):
            wants, ends = drawn_wants(net, seed), drawn_ends(net, seed, seed % 9)
            self.assertIs(do_serve(net, wants, ends), not looks_new.below(looks_new.shorts(net, wants), ends))

    def test_serving_ends(self):
        self.alike((serving_ends(TWICE, THREE, ("c", "b", "a")), serving_ends(ONE, {}, ("a",))), ({"a": 1, "b": 0, "c": 1}, {"a": 0}))
        for seed, net in enumerate(TINY[:12]):
            wants = drawn_wants(net, seed)
            told = looks_new.shorts(net, wants)
            for order in permutations(net.places):
                ends = dict.fromkeys(net.places, 9)
                for place in order:
                    ends[place] = min(many for many in range(10) if not looks_new.below(told, {**ends, place: many}))
                self.alike(serving_ends(net, wants, order), ends)
                self.alike((sum(ends.values()) + 1) // 2, fewest_for(net, wants))
        for value in (*STRANGE, 1, (), ("a", "b"), ("a", "b", "b"), ("a", "b", "c", "c"), ["a", "b", "c"], "abc", ("a", "b", "q"), THREE,
                      TWICE):
            self.refused(InvalidOperation, serving_ends, TWICE, THREE, value)

    def test_fewest_for(self):
        self.alike((fewest_for(TWICE, THREE), fewest_for(ONE, {}), fewest_for(SIXTY, {("dock", "pier"): 9}),
                    fewest_for(NINE, dict.fromkeys(NINE.pairs, 9))), (1, 0, 0, 41))
        for seed, net in enumerate((*TINY, *TINY)):
            wants = {pair: min(many, 5) for pair, many in drawn_wants(net, seed).items()}
            told = looks_new.shorts(net, wants)
            self.alike(fewest_for(net, wants), (min(sum(ends.values()) for ends in looks_new.enough(net, told, 5)) + 1) // 2)
            self.alike(fewest_for(net, wants), (looks_new.greatest_row_sum(told, net.places) + 1) // 2)
            if fewest_for(net, wants) <= 5:
                self.alike(fewest_for(net, wants), looks_new.fewest_new(net, lambda ties: self.are_enough(net, wants, ties)))

    def are_enough(self, net, wants, ties):
        cuts = looks_new.cuts_behind(net, ties)
        return all(cuts[lot] >= looks_new.wanted_cut(wants, lot) for lot in cuts)

    def test_like_wants_are_a_fold(self):
        for net in SMALL[:30]:
            for fold in (2, 5, 9):
                wants = dict.fromkeys(net.pairs, fold)
                ends = least_ends(net, fold, net.places)
                self.alike((fewest_for(net, wants), serving_ends(net, wants, net.places)), (fewest_ties(net, fold), ends))
                self.assertIs(do_serve(net, wants, ends), does_suffice(net, fold, ends))
                self.alike(wants_ends_paper(net, wants, ends)[0], ends_paper(net, fold, ends)[0])


class Papers(Case):

    def test_wants_papers(self):
        self.alike(wants_paper(TWICE, THREE)[0], (("a", "c"),))
        self.alike(wants_paper(ONE, {}), ((), ()))
        for seed, net in enumerate((*[net for net in SMALL if len(net) <= 5], *TINY)):
            wants = drawn_wants(net, seed)
            paper = wants_paper(net, wants)
            self.assertTrue(right_wants_paper(net, wants, paper), paper)
            self.assertIs(is_wants_paper(net, wants, paper), True)
            self.alike(len(paper[0]), fewest_for(net, wants))

    def test_great_nets(self):
        for seed, net in enumerate((*ALL, NINE, CROWD)):
            wants = drawn_wants(net, seed)
            if net.size + fewest_for(net, wants) > 60:
                self.refused(InvalidNet, wants_paper, net, wants)
            else:
                self.assertIs(is_wants_paper(net, wants, wants_paper(net, wants)), True)
        wants = {pair: 9 if pair == ("a", "i") else 2 for pair in HALF_FULL.pairs}
        self.refused(InvalidNet, wants_paper, HALF_FULL, wants)
        self.assertIs(is_wants_paper(HALF_FULL, wants, ((("a", "i"),) * 9, (tuple(LETTERS[:8]), ("i",)))), False)
        self.refused(InvalidNet, wants_ends_paper, HALF_FULL, wants, {**dict.fromkeys(LETTERS, 0), "a": 9, "i": 9})
        self.refused(InvalidRow, wants_paper, HALF_FULL, {**wants, ("a", "b"): 1})
        self.refused(InvalidRow, wants_ends_paper, HALF_FULL, wants, {**dict.fromkeys(LETTERS, 0), "a": 9, "i": 61})
        less = HALF_FULL.untied("a", "b", 2).untied("b", "c", 2).untied("c", "d", 2).untied("d", "e", 2).untied("e", "f")
        self.alike(len(wants_paper(less, wants)[0]), 9)

    def test_wants_papers_made_otherwise(self):
        for value in (((("a", "c"),), (("a",), ("c",))), ((("a", "c"),), (("a", "b"), ("c",))), ((("a", "c"),), (("a",),)),
                      ((("a", "c"),), (("a",), ("b",), ("c",))),
                      ((("a", "c"),), (("b", "c"),))):
            self.assertIs(is_wants_paper(TWICE, THREE, value), True, value)
        for value in (((("a", "c"),), ()), ((("a", "c"),), (("b",),)), ((("a", "b"),), (("a",), ("c",))),
                      ((("a", "c"), ("b", "b")), (("a",), ("c",))), ((("c", "a"),), (("a",), ("c",))),
                      ((("a", "c"),), (("c",), ("a",))), [(("a", "c"),), (("a",), ("c",))], ((), ()), (None, None), ((("a", "c"),), None),
                      ((("a", "c"),),)):
            self.assertIs(is_wants_paper(TWICE, THREE, value), False, value)
        for value in (*STRANGE, 5, (), TWICE):
            self.assertIs(is_wants_paper(TWICE, THREE, value), False)
            self.assertIs(is_wants_ends_paper(TWICE, THREE, {"a": 1, "b": 0, "c": 1}, value), False)
        for seed, net in enumerate((PATH, LOOSE, PAIR, FULL, HUB)):
            wants = drawn_wants(net, seed + 1)
            for bent in looks.bends(wants_paper(net, wants)):
                self.assertIs(is_wants_paper(net, wants, bent), right_wants_paper(net, wants, bent), bent)

    def test_wants_ends_papers(self):
        kinds = []
        for seed, net in enumerate((*SMALL[:80], *TINY)):
            for shift in range(4):
                wants, ends = drawn_wants(net, seed + shift), drawn_ends(net, seed + shift, 2 * shift + 3)
                paper = wants_ends_paper(net, wants, ends)
                kinds.append(paper[0])
                self.assertTrue(right_wants_ends_paper(net, wants, ends, paper), paper)
                self.assertIs(is_wants_ends_paper(net, wants, ends, paper), True)
                odd, lots = sum(ends.values()) % 2 == 1, looks_new.below(looks_new.shorts(net, wants), ends)
                self.assertIs(is_wants_ends_paper(net, wants, ends, ("odd",)), odd)
                for lot in looks.all_lots(net.places):
                    self.assertIs(is_wants_ends_paper(net, wants, ends, ("lacks", lot)), lot in lots)
                self.assertEqual(paper[0] == "met", not odd and not lots)
        self.assertGreater(min(kinds.count(word) for word in ("met", "odd", "lacks")), 40)

    def test_wants_ends_papers_made_otherwise(self):
        ends = {"a": 2, "b": 2, "c": 2}
        for new_ties in ((("a", "b"), ("a", "c"), ("b", "c")), (("a", "c"), ("a", "c"), ("b", "b"))):
            self.assertIs(is_wants_ends_paper(TWICE, THREE, ends, ("met", new_ties)), True)
        for value in (("met", (("a", "a"), ("b", "b"), ("c", "c"))), ("met", (("a", "c"),)), ("met",
                                                                                              (("a", "c"), ("a", "b"), ("b", "c"))),
                      ("odd",), ("lacks", ("a",)), ("met", None),
                      ("odd", ()), ["met", (("a", "b"), ("a", "c"), ("b", "c"))], ("Met", (("a", "b"), ("a", "c"), ("b", "c"))),
                      ("met", (("a", "b"), ("a", "c"), ("b", "c")), ())):
            self.assertIs(is_wants_ends_paper(TWICE, THREE, ends, value), False, value)
        odd = {"a": 0, "b": 0, "c": 1}
        for value, told in ((("odd",), True), (("lacks", ("a",)), True), (("lacks", ["a"]), False), (("lacks", ("c",)), False),
                            (("lacks", ("b", "c")), False), (("lacks", ("a", "b")), True), (("lacks", ()), False), (["odd"], False)):
            self.assertIs(is_wants_ends_paper(TWICE, THREE, odd, value), told, value)
        for told in (ends, odd, {"a": 1, "b": 1, "c": 1}, {"a": 0, "b": 0, "c": 2}):
            for bent in looks.bends(wants_ends_paper(TWICE, THREE, told)):
                self.assertIs(is_wants_ends_paper(TWICE, THREE, told, bent), right_wants_ends_paper(TWICE, THREE, told, bent), bent)

    def test_nothing_handed_in_is_changed(self):
        wants, ends = dict(reversed(THREE.items())), {"c": 1, "a": 1, "b": 0}
        before = (list(wants.items()), list(ends.items()))
        wants_ends_paper(TWICE, wants, ends)
        wants_paper(TWICE, wants)
        serving_ends(TWICE, wants, TWICE.places)["a"] = 9
        self.alike((list(wants.items()), list(ends.items())), before)
        self.alike((serving_ends(TWICE, wants, TWICE.places), RING.size), ({"a": 1, "b": 0, "c": 1}, 5))


if __name__ == "__main__":
    unittest.main()
