"""The fewest new ties and their papers, prices, least prices, weighings, price papers."""

import random
import unittest

from keptways.base.nets import Net
from keptways.errors import InvalidNet, InvalidNumber, InvalidOperation, InvalidRow
from keptways.more.ties import (cheapest_ends, fewest_ties, is_price_paper, is_prices, is_ties_paper, is_weighing, least_price, price_of,
                                price_paper, ties_paper, weighing, worth)
from tests import looks, looks_new
from tests.samples import ALL, CROWD, FULL, HUB, LETTERS, LOOSE, NINE, NO_NETS, ONE, PAIR, RING, SIXTY, SMALL, STRANGE, Case
from tests.test_rows import FOLDS, HALF_FULL, NO_ENDS, NO_FOLDS, PATH, TINY, drawn_ends

NO_PRICES = (*STRANGE, 0, 1, (), "q", PATH, {"a": 1, "b": 1}, {"a": 1, "b": 1, "c": 1, "d": 1}, {"a": 1, "b": 1, "d": 1},
             {"a": 1, "b": 1, "c": -1},
             {"a": 1, "b": 1, "c": 1001}, {"a": 1, "b": 1, "c": True}, {"a": 1, "b": 1, "c": None}, {"a": 1, "b": 1, "c": "1"},
             {"a": 1, "b": 1, "c": 10 ** 60}, (("a", 1), ("b", 1), ("c", 1)), [1, 1, 1], {"a": 1, "b": 1, (1, (2,)): 1})
TRIANGLE = (("a", "b"), ("a", "c"), ("b", "c"))
SINGLES = (("a",), ("b",), ("c",))


def drawn_prices(net, seed):
    draw = random.Random(seed)
    kinds = ((0, 1000), (7,), range(1001), (0, 0, 1), (1, 2, 3), (1000,))
    return {place: draw.choice(kinds[seed % len(kinds)]) for place in net.places}


def even_more(net, fold, prices):
    """What a place more costs if the fewest ends are odd."""
    least = looks_new.greatest_row_sum(looks_new.lacks(net, fold), net.places)
    return min(prices.values()) if least % 2 == 1 else 0


def right_price_paper(net, fold, prices, value):
    if not isinstance(value, tuple) or len(value) != 3 or not looks.is_number(value[1]):
        return False
    new_ties, told, weighed = value
    if not looks_new.right_fold(net, fold, new_ties) or not looks_new.right_weighing(net, prices, weighed):
        return False
    return (told == looks_new.price(prices, looks_new.counted_ends(net, new_ties))
            == looks_new.worth(net, fold, weighed) + even_more(net, fold, prices))


def right_ties_paper(net, fold, value):
    if not isinstance(value, tuple) or len(value) != 2:
        return False
    return (looks_new.right_fold(net, fold, value[0]) and looks_new.right_row(net.places, value[1])
            and len(value[0]) == (looks_new.row_sum(looks_new.lacks(net, fold), value[1]) + 1) // 2)


class Fewest(Case):

    def test_fewest_ties(self):
        self.alike((fewest_ties(LOOSE, 2), fewest_ties(RING, 3), fewest_ties(ONE, 9), fewest_ties(SIXTY, 9), fewest_ties(NINE, 9),
                    fewest_ties(PATH, 2)),
                   (3, 3, 0, 0, 41, 1))
        for net in TINY:
            for fold in (2, 3, 4):
                if fewest_ties(net, fold) <= 6:
                    self.alike(fewest_ties(net, fold),
                               looks_new.fewest_new(net, lambda ties: min(looks_new.cuts_behind(net, ties).values()) >= fold))

    def test_ties_papers(self):
        self.alike(ties_paper(LOOSE, 2), (TRIANGLE, SINGLES))
        self.alike((ties_paper(ONE, 9), ties_paper(SIXTY, 9)), (((), ()), ((), ())))
        for net in (*[net for net in SMALL if len(net) <= 5][:40], *TINY):
            for fold in FOLDS:
                paper = ties_paper(net, fold)
                self.assertTrue(right_ties_paper(net, fold, paper), paper)
                self.assertIs(is_ties_paper(net, fold, paper), True)
                self.alike(len(paper[0]), fewest_ties(net, fold))

    def test_great_nets(self):
        for net in (*ALL, NINE):
            for fold in (2, 4, 9):
                if net.size + fewest_ties(net, fold) > 60:
                    self.refused(InvalidNet, ties_paper, net, fold)
                    self.refused(InvalidNet, price_paper, net, fold, dict.fromkeys(net.places, 1))
                else:
                    self.assertIs(is_ties_paper(net, fold, ties_paper(net, fold)), True)
        self.refused(InvalidNet, ties_paper, HALF_FULL, 2)
        self.alike(ties_paper(CROWD, 2), ((), ()))

    def test_papers_made_otherwise(self):
        for value in (((("a", "c"),), (("a",), ("c",))), ((("a", "c"),), (("a", "b"), ("c",))), ((("a", "c"),), (("a",), ("b",), ("c",))),
                      ((("a", "c"),), (("a",), ("b", "c"))), ((("a", "c"),), (("a",),)), ((("a", "c"),), (("b", "c"),))):
            self.assertIs(is_ties_paper(PATH, 2, value), True, value)
        for value in (((("a", "c"),), ()), ((("a", "c"),), (("b",),)), ((("a", "b"),), (("a",), ("c",))),
                      ((("a", "a"), ("a", "c")), (("a",), ("c",))),
                      ((("c", "a"),), (("a",), ("c",))), ((("a", "c"),), (("c",), ("a",))), [(("a", "c"),), (("a",), ("c",))], ((), ()),
                      (None, None)):
            self.assertIs(is_ties_paper(PATH, 2, value), False, value)
        for value in (*STRANGE, 5, (), PATH):
            self.assertIs(is_ties_paper(PATH, 2, value), False)
        for net, fold in ((PATH, 2), (LOOSE, 2), (PAIR, 7), (FULL, 4), (ONE, 2)):
            for bent in looks.bends(ties_paper(net, fold)):
                self.assertIs(is_ties_paper(net, fold, bent), right_ties_paper(net, fold, bent), bent)
        self.assertIs(is_ties_paper(HALF_FULL, 2, ((("a", "i"), ("b", "i")), ((*LETTERS[:8],), ("i",)))), False)
        less = HALF_FULL.untied("a", "b", 2)
        self.assertIs(is_ties_paper(less, 2, ((("a", "i"), ("b", "i")), ((*LETTERS[:8],), ("i",)))), True)

    def test_no_nets_and_folds(self):
        for call, more in ((fewest_ties, ()), (ties_paper, ()), (is_ties_paper, (None,)), (least_price, (None,)), (cheapest_ends, (None,)),
                           (weighing, (None,)), (worth, (None, None)), (price_paper, (None,)), (is_price_paper, (None, None))):
            for value in NO_NETS:
                self.refused(InvalidNet, call, value, None, *more)
            for value in NO_FOLDS:
                self.alike(self.refused(InvalidNumber, call, PATH, value, *more).number, value)
        for call, more in ((is_prices, ()), (price_of, (None,)), (is_weighing, (None,))):
            for value in NO_NETS:
                self.refused(InvalidNet, call, value, None, *more)


class Prices(Case):

    def test_is_prices(self):
        for value in ({"a": 0, "b": 1000, "c": 1}, {"c": 1, "b": 2, "a": 3}):
            self.assertIs(is_prices(PATH, value), True)
        for value in NO_PRICES:
            self.assertIs(is_prices(PATH, value), False, value)
        self.assertIs(is_prices(ONE, {"a": 5}), True)
        for bent in looks.bends({"a": 0, "b": 1000, "c": 1}):
            self.assertIs(is_prices(PATH, bent), looks_new.right_ends(PATH, bent, 1000), bent)

    def test_price_of(self):
        self.alike(price_of(PATH, {"a": 1, "b": 10, "c": 1000}, {"a": 3, "b": 2, "c": 60}), 60023)
        for seed, net in enumerate(ALL[:30]):
            prices, ends = drawn_prices(net, seed), drawn_ends(net, seed, 60)
            self.alike(price_of(net, prices, ends), looks_new.price(prices, ends))
        for value in NO_PRICES:
            self.refused(InvalidOperation, price_of, PATH, value, None)
        for value in NO_ENDS:
            self.refused(InvalidRow, price_of, PATH, {"a": 1, "b": 1, "c": 1}, value)

    def test_no_prices(self):
        for call, more in ((least_price, ()), (cheapest_ends, ()), (weighing, ()), (worth, (None,)), (price_paper, ()),
                           (is_price_paper, (None,))):
            for value in NO_PRICES:
                self.refused(InvalidOperation, call, PATH, 2, value, *more)
        for value in NO_PRICES:
            self.refused(InvalidOperation, is_weighing, PATH, value, None)
            self.refused(InvalidOperation, price_paper, HALF_FULL, 2, value)

    def test_least_prices(self):
        self.alike(least_price(LOOSE, 3, {"a": 1, "b": 1, "c": 10}), 37)
        self.alike((least_price(ONE, 9, {"a": 1000}), cheapest_ends(ONE, 9, {"a": 1000})), (0, {"a": 0}))
        for seed, net in enumerate((*TINY, *TINY, *TINY)):
            fold = 2 + seed % 3
            prices = drawn_prices(net, seed)
            some = looks_new.enough(net, looks_new.lacks(net, fold), fold + 1)
            ends = cheapest_ends(net, fold, prices)
            self.assertTrue(ends in some)
            self.alike(looks_new.price(prices, ends), min(looks_new.price(prices, told) for told in some))
            self.alike(least_price(net, fold, prices), min(looks_new.price(prices, told) for told in some if sum(told.values()) % 2 == 0))

    def test_cheapest_ends_are_handed_out(self):
        prices = {"c": 3, "a": 1, "b": 2}
        cheapest_ends(PATH, 3, prices)["a"] = 50
        self.alike((cheapest_ends(PATH, 3, prices), prices), ({"a": 2, "b": 1, "c": 2}, {"c": 3, "a": 1, "b": 2}))


class Weighed(Case):

    def test_weighings(self):
        for seed, net in enumerate((*SMALL[:60], *TINY, ONE)):
            for fold in (2, 5, 9):
                prices = drawn_prices(net, seed + fold)
                told = weighing(net, fold, prices)
                self.assertTrue(looks_new.right_weighing(net, prices, told), told)
                self.assertIs(is_weighing(net, prices, told), True)
                self.alike(worth(net, fold, prices, told), looks_new.worth(net, fold, told))
                self.alike(worth(net, fold, prices, told), price_of(net, prices, cheapest_ends(net, fold, prices)))
        for net in (NINE, CROWD):
            prices = {place: at * 111 for at, place in enumerate(net.places)}
            self.alike(worth(net, 9, prices, weighing(net, 9, prices)), price_of(net, prices, cheapest_ends(net, 9, prices)))

    def test_is_weighing(self):
        prices = {"a": 3, "b": 0, "c": 1000}
        for value, told in (((), True), (((1, ()),), True), (((1000, ()),) * 9, True), (((3, (("a",), ("c",))),), True),
                            (((4, (("a",), ("c",))),), False),
                            (((2, (("a",),)), (1, (("a",),))), True), (((2, (("a",),)), (2, (("a",),))), False),
                            (((1, (("a", "b"),)),), False),
                            (((1000, (("c",),)),), True), (((1001, ()),), False), (((0, ()),), False), (((True, ()),), False),
                            (((-1, ()),), False),
                            (((1, (("c",), ("a",))),), False), (((1, (("a",), ("a", "c"))),), False),
                            (((1, (("a", "c"),)), (1, (("a",), ("c",)))), True),
                            ([(1, ())], False), (([1, ()],), False), (((1, [("a",)]),), False), (((1,),), False), (((1, (), ()),), False),
                            (((1, ((),)),), False), (((1, (("a", "b", "c"),)),), False)):
            self.assertIs(is_weighing(PATH, prices, value), told, value)
        for value in (*STRANGE, 5, PATH, (None,), ((),)):
            self.assertIs(is_weighing(PATH, prices, value), False)
            self.refused(InvalidOperation, worth, PATH, 2, prices, value)
        for bent in looks.bends(((2, (("a",), ("c",))), (1, (("a",),)))):
            self.assertIs(is_weighing(PATH, prices, bent), looks_new.right_weighing(PATH, prices, bent), bent)
            if looks_new.right_weighing(PATH, prices, bent):
                self.alike(worth(PATH, 4, prices, bent), looks_new.worth(PATH, 4, bent))

    def test_worth(self):
        prices = {"a": 3, "b": 0, "c": 1000}
        self.alike((worth(PATH, 2, prices, ()), worth(PATH, 4, prices, ((2, (("a",), ("c",))), (1, (("a",),)))),
                    worth(PATH, 9, prices, ((900, (("c",),)),))),
                   (0, 15, 7200))


class Papers(Case):

    def test_price_papers(self):
        for seed, net in enumerate((*[net for net in SMALL if len(net) <= 5][:40], *TINY, ONE)):
            for fold in (2, 3, 6, 9):
                prices = drawn_prices(net, seed + fold)
                paper = price_paper(net, fold, prices)
                self.assertTrue(right_price_paper(net, fold, prices, paper), paper)
                self.assertIs(is_price_paper(net, fold, prices, paper), True)
                self.alike(paper[1], least_price(net, fold, prices))
        for net, fold in ((NINE, 9), (CROWD, 2), (RING, 9), (HUB, 9), (SIXTY, 9)):
            prices = {place: at * 100 for at, place in enumerate(net.places)}
            self.assertIs(is_price_paper(net, fold, prices, price_paper(net, fold, prices)), True)

    def test_papers_made_otherwise(self):
        prices = {"a": 2, "b": 1, "c": 2}
        for value in (((("a", "c"),), 4, ((1, (("a",), ("c",))), (1, (("a",), ("c",))))), ((("a", "c"),), 4, ((2, (("a",), ("c",))),)),
                      ((("a", "c"),), 4, ((1, (("a", "b"), ("c",))), (1, (("a",), ("c",))), (1, ()))),
                      ((("a", "c"),), 4, ((2, (("a",),)), (1, (("c",),)), (1, (("b",), ("c",)))))):
            self.assertIs(is_price_paper(PATH, 2, prices, value), True, value)
        for value in (((("a", "b"), ("b", "c")), 6, ((2, (("a",), ("c",))),)), ((("a", "c"),), 3, ((2, (("a",), ("c",))),)),
                      ((("a", "c"),), 4, ((1, (("a",), ("c",))),)), ((("a", "c"),), 4, ((2, (("a", "b"), ("c",))),)),
                      ((("a", "c"),), 4, ()),
                      [(("a", "c"),), 4, ((2, (("a",), ("c",))),)], ((("a", "c"),), 4), ((("c", "a"),), 4, ((2, (("a",), ("c",))),))):
            self.assertIs(is_price_paper(PATH, 2, prices, value), False, value)
        for value in (*STRANGE, 5, (), (None, None, None), PATH):
            self.assertIs(is_price_paper(PATH, 2, prices, value), False)

    def test_prices_of_nothing(self):
        # Where a place costs nothing, more new ties can be told at it than are needed.
        free = {"a": 0, "b": 0, "c": 0}
        for new_ties in ((("a", "c"),), (("a", "b"), ("a", "c")), (("a", "a"), ("a", "c")), (("a", "c"),) * 58):
            self.assertIs(is_price_paper(PATH, 2, free, (new_ties, 0, ())), True)
        for new_ties in ((), (("a", "b"),), (("a", "c"),) * 59, (("a", "a"),) * 30 + (("a", "c"),)):
            self.assertIs(is_price_paper(PATH, 2, free, (new_ties, 0, ())), False)
        self.assertIs(is_price_paper(PATH, 2, free, ((("a", "c"),), False, ())), False)

    def test_odd_ends(self):
        prices = {"a": 5, "b": 1, "c": 3}
        self.alike((least_price(LOOSE, 3, prices), right_price_paper(LOOSE, 3, prices, price_paper(LOOSE, 3, prices))), (28, True))
        paper = ((("a", "b"), ("a", "b"), ("a", "c"), ("b", "c"), ("b", "c")), 28, ((1, SINGLES), (2, (("a",), ("c",))), (2, (("a",),))))
        self.assertIs(is_price_paper(LOOSE, 3, prices, paper), True)
        self.assertIs(is_price_paper(LOOSE, 3, prices, (paper[0], 27, paper[2])), False)
        self.assertIs(is_price_paper(LOOSE, 3, prices, ((("a", "b"), ("a", "c"), ("a", "c"), ("b", "b"), ("b", "c")), 28, paper[2])), False)
        self.assertIs(is_price_paper(LOOSE, 3, prices, ((("a", "b"), ("a", "c"), ("a", "c"), ("b", "c"), ("b", "c")), 30, paper[2])), False)

    def test_bent_papers(self):
        for net, fold, prices in ((PATH, 2, {"a": 2, "b": 1, "c": 2}), (LOOSE, 2, {"a": 1, "b": 1, "c": 0}), (PAIR, 5, {"a": 1000, "b": 3}),
                                  (PATH, 3, {"a": 1, "b": 0, "c": 4}), (Net(("a", "b")), 3, {"a": 1, "b": 2})):
            for bent in looks.bends(price_paper(net, fold, prices)):
                self.assertIs(is_price_paper(net, fold, prices, bent), right_price_paper(net, fold, prices, bent), bent)


if __name__ == "__main__":
    unittest.main()
