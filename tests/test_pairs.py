"""Leading past: pairs_at, led_past, numbers_beside, does_keep, keeping_pairs, losing_lots."""

import unittest

from keptways.base.nets import Net
from keptways.errors import InvalidNet, InvalidOperation, UnknownPlace
from keptways.past.pairs import (does_keep, is_keeping_paper, keeping_pairs, keeping_paper, led_past, losing_lots, numbers_beside,
                                 pairs_at)
from tests import looks
from tests.samples import ALL, CROWD, FULL, HUB, LOOSE, NINE, NO_NETS, NO_PLACES, ONE, PAIR, RING, SIXTY, SMALL, STRANGE, Case

NO_PAIRS = (*STRANGE, 5, (), ("a",), "ab", ["a", "b"], ("b", "a"), ("a", "d"), ("d", "d"), ("a", "q"), ("a", "b", "c"), ("a", "b", None),
            ("a", ["b"]), (("a", "b"),), {"a": "b"}, ("a", "a"), FULL)


class Pairs(Case):

    def test_pairs_at(self):
        self.alike(pairs_at(HUB, "z"), (("a", "a"), ("a", "b"), ("a", "c"), ("b", "c")))
        self.alike((pairs_at(ONE, "a"), pairs_at(LOOSE, "b"), pairs_at(PAIR, "b")), ((), (), (("a", "a"),)))
        self.alike(pairs_at(Net(("a", "b"), {("a", "b"): 1}), "a"), ())
        for net in ALL:
            for place in net.places:
                self.alike(pairs_at(net, place), looks.pairs_at(net, place))

    def test_led_past(self):
        self.alike(led_past(PAIR, "a", ("b", "b")).lines, ("a b", "a b 2"))
        self.alike(led_past(RING, "a", ("b", "e")).lines, ("a b c d e", "b c 1", "b e 1", "c d 1", "d e 1"))
        self.alike(led_past(SIXTY, "dock", ("pier", "pier")).size, 58)
        for net in (*SMALL[:60], CROWD):
            for place in net.places:
                for pair in pairs_at(net, place):
                    behind = led_past(net, place, pair)
                    self.alike((behind.places, behind.ties), (net.places, looks.led_past(net, place, pair).ties))
                    self.alike(behind.degree(place), net.degree(place) - 2)

    def test_numbers_beside(self):
        self.alike(numbers_beside(HUB, "z"), {("a", "b"): 3, ("a", "c"): 3, ("b", "c"): 3})
        self.alike((numbers_beside(ONE, "a"), numbers_beside(PAIR, "a"), numbers_beside(LOOSE, "b")), ({}, {}, {("a", "c"): 0}))
        for net in ALL[:50]:
            for place in net.places[:3]:
                self.alike(numbers_beside(net, place), looks.beside(net, place))


class Keeping(Case):

    def test_told_pairs(self):
        self.alike((keeping_pairs(HUB, "z"), keeping_pairs(FULL, "d")), ((("a", "b"), ("a", "c")), ()))
        self.alike((keeping_pairs(PAIR, "a"), keeping_pairs(RING, "c"), keeping_pairs(LOOSE, "a")), ((("b", "b"),), (("b", "d"),), ()))
        self.alike((does_keep(HUB, "z", ("a", "a")), does_keep(HUB, "z", ("a", "b"))), (False, True))

    def test_pairs_keep_by_the_numbers_of_both_nets(self):
        for net in SMALL[:90]:
            for place in net.places:
                keeping = tuple(pair for pair in pairs_at(net, place) if looks.does_keep(net, place, pair))
                self.alike(keeping_pairs(net, place), keeping)
                for pair in pairs_at(net, place):
                    self.assertIs(does_keep(net, place, pair), pair in keeping)

    def test_no_number_rises(self):
        for net in (*SMALL[:60], CROWD):
            for place in net.places:
                before = numbers_beside(net, place)
                for pair in pairs_at(net, place):
                    after = numbers_beside(led_past(net, place, pair), place)
                    self.assertTrue(all(after[two] <= before[two] for two in before))
                    self.assertIs(does_keep(net, place, pair), after == before)

    def test_losing_lots(self):
        self.alike((losing_lots(FULL, "d", ("a", "b")), losing_lots(HUB, "z", ("a", "b"))), ((("a", "b"),), ()))
        for net in SMALL[:60]:
            for place in net.places:
                narrow = looks.lots_with_spare(net, place, 1)
                for pair in pairs_at(net, place):
                    told = tuple(lot for lot in narrow if {*pair} <= {*lot})
                    self.alike(losing_lots(net, place, pair), told)
                    self.assertIs(does_keep(net, place, pair), not told)

    def test_two_ties_are_always_led_past(self):
        for net in ALL:
            for place in net.places:
                if net.degree(place) == 2:
                    self.alike(keeping_pairs(net, place), pairs_at(net, place))

    def test_some_place_with_three_ties_has_no_pair(self):
        self.alike([keeping_pairs(FULL, place) for place in FULL.places], [()] * 4)

    def test_pairs_that_keep_but_not_together(self):
        found = [(first, second) for net in SMALL for place in net.places for first in keeping_pairs(net, place)
                 for second in keeping_pairs(net, place) if second in pairs_at(led_past(net, place, first), place)
                 and not does_keep(led_past(net, place, first), place, second)]
        self.assertTrue(found)

    def test_each_tie_has_a_partner(self):
        for net in (*ALL, *SMALL):
            for place in net.places:
                lone = [other for other in net.near(place) if looks.number(net, place, other) == 1]
                if not lone and net.degree(place) % 2 == 0:
                    self.assertEqual({*net.near(place)}, {tip for pair in keeping_pairs(net, place) for tip in pair})
                elif not lone and net.degree(place) != 3:
                    self.assertTrue(keeping_pairs(net, place))

    def test_great_nets(self):
        for net in (CROWD, NINE):
            for place in net.places:
                for pair in pairs_at(net, place)[:10]:
                    self.assertIs(does_keep(net, place, pair), looks.does_keep(net, place, pair))


class Refused(Case):

    def test_no_nets(self):
        for value in NO_NETS:
            for call, rest in ((pairs_at, ()), (led_past, (None,)), (numbers_beside, ()), (does_keep, (None,)), (keeping_pairs, ()),
                               (losing_lots, (None,)), (keeping_paper, (None,)), (is_keeping_paper, (None, None))):
                self.refused(InvalidNet, call, value, "q", *rest)

    def test_unknown_places(self):
        for net in (FULL, ONE):
            for value in NO_PLACES:
                for call, rest in ((pairs_at, ()), (led_past, (None,)), (numbers_beside, ()), (does_keep, (None,)),
                                   (keeping_pairs, ()), (losing_lots, (None,)), (keeping_paper, (None,)),
                                   (is_keeping_paper, (None, None))):
                    self.alike(self.refused(UnknownPlace, call, net, value, *rest).asked, value)

    def test_no_pairs(self):
        for value in NO_PAIRS:
            for call, rest in ((led_past, ()), (does_keep, ()), (losing_lots, ()), (keeping_paper, ()), (is_keeping_paper, (None,))):
                self.refused(InvalidOperation, call, FULL, "d", value, *rest)
        for call, rest in ((led_past, ()), (does_keep, ()), (losing_lots, ()), (keeping_paper, ()), (is_keeping_paper, (None,))):
            self.refused(InvalidOperation, call, HUB, "z", ("b", "b"), *rest)
            self.refused(InvalidOperation, call, ONE, "a", ("a", "a"), *rest)
            self.refused(InvalidOperation, call, RING, "a", ("b", "c"), *rest)


if __name__ == "__main__":
    unittest.main()
