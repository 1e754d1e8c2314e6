"""Whole places: steps_net, do_keep, is_ready, partners, gone_on, whole_past, is_whole_past, left_net."""

import unittest
from unittest import mock

from keptways.base.nets import Net
from keptways.errors import InvalidNet, InvalidOperation, NoWay, TooMany, UnknownPlace
from keptways.past import whole
from keptways.past.pairs import keeping_pairs, led_past, pairs_at
from keptways.past.whole import do_keep, gone_on, is_ready, is_whole_past, left_net, partners, steps_net, whole_past
from tests import looks
from tests.samples import (ALL, CROWD, FULL, HUB, LETTERS, LOOSE, NINE, NO_NETS, NO_PLACES, ONE, PAIR, RING, SIXTY, SMALL, STRANGE,
                           Case, drawn_nets)

PATH = Net(("a", "b", "c"), {("a", "b"): 1, ("b", "c"): 1})
# The hub z has six ties, of which none alone joins its ends.
WHEEL = Net(("a", "b", "c", "z"), {("a", "b"): 1, ("b", "c"): 2, ("a", "z"): 3, ("b", "z"): 1, ("c", "z"): 2})
# Each tie of the hub z alone joins its ends, and no two of them keep.
STAR = Net(("a", "b", "c", "d", "z"), {(tip, "z"): 1 for tip in "abcd"})
NO_STEPS = (*STRANGE, 5, "ab", ("a", "b"), [("a", "b")], (["a", "b"],), (("b", "a"),), (("a", "z"),), (("b", "b"),), (("a", "b"), ("a", "b")),
            (("a", "b"), None), (("a", "a"), ("a", "c")), (("a", "q"),), (("a", "b", "c"),), {("a", "b"): 1}, (FULL,))


def all_steps(net, place, most):
    """All steps of at most so many pairs."""
    found, last = [((), net)], [((), net)]
    for _ in range(most):
        last = [((*steps, pair), led_past(behind, place, pair)) for steps, behind in last for pair in pairs_at(behind, place)]
        found += last
    return found


def is_led_past(net, place, told, known):
    """Whether a place can be led past whole with these numbers kept, found by trying all pairs."""
    if net.lines not in known:
        known[net.lines] = net.degree(place) == 0 or any(
            is_led_past(behind, place, told, known)
            for behind in (looks.led_past(net, place, pair) for pair in looks.pairs_at(net, place))
            if looks.beside(behind, place) == told)
    return known[net.lines]


class Steps(Case):

    def test_steps_net(self):
        self.alike(steps_net(HUB, "z", (("a", "b"), ("a", "c"))).ties, {("a", "b"): 2, ("a", "c"): 2, ("b", "c"): 1})
        self.alike((steps_net(ONE, "a", ()).lines, steps_net(SIXTY, "pier", (("dock", "dock"),) * 30).lines), (("a",), ("dock pier",)))
        for net in SMALL[:30]:
            for place in net.places:
                for steps, behind in all_steps(net, place, 2):
                    self.assertTrue(steps_net(net, place, steps) == behind)

    def test_do_keep(self):
        self.assertIs(do_keep(HUB, "z", (("a", "b"), ("a", "c"))), True)
        self.assertIs(do_keep(HUB, "z", (("a", "c"), ("a", "b"))), True)
        self.assertIs(do_keep(HUB, "z", (("b", "c"), ("a", "a"))), False)
        self.assertIs(do_keep(ONE, "a", ()), True)
        for net in SMALL[:30]:
            for place in net.places:
                told = looks.beside(net, place)
                for steps, behind in all_steps(net, place, 2):
                    self.assertIs(do_keep(net, place, steps), looks.beside(behind, place) == told)

    def test_pairs_of_steps_that_keep(self):
        for net in SMALL[:20]:
            for place in net.places:
                for steps, _ in all_steps(net, place, 2):
                    if do_keep(net, place, steps):
                        for at, pair in enumerate(steps):
                            self.assertIn(pair, keeping_pairs(net, place))
                            self.assertIs(do_keep(net, place, steps[:at]), True)

    def test_no_steps(self):
        for value in NO_STEPS:
            for call in (steps_net, do_keep, gone_on):
                self.refused(InvalidOperation, call, HUB, "z", value)
            self.assertIs(is_whole_past(HUB, "z", value), False)


class Ready(Case):

    def test_is_ready(self):
        self.alike([is_ready(net, net.places[0]) for net in (ONE, LOOSE, PAIR, RING, PATH, FULL, SIXTY, NINE)],
                   [True, True, True, True, False, True, True, True])
        for net in (*SMALL, CROWD):
            for place in net.places:
                told = [looks.number(net, place, other) > 1 for other in net.near(place)]
                self.assertIs(is_ready(net, place), all(told))

    def test_ready_places_stay_so(self):
        for net in SMALL:
            for place in net.places:
                if is_ready(net, place):
                    for pair in keeping_pairs(net, place):
                        behind = led_past(net, place, pair)
                        self.assertTrue(is_ready(behind, place) or behind.degree(place) == 1)

    def test_partners(self):
        self.alike((partners(HUB, "z", "a"), partners(HUB, "z", "b"), partners(FULL, "a", "b"), partners(PAIR, "a", "b")),
                   (("b", "c"), ("a",), (), ("b",)))
        for net in SMALL[:80]:
            for place in net.places:
                keeping = [pair for pair in looks.pairs_at(net, place) if looks.does_keep(net, place, pair)]
                for other in net.places:
                    if net.tied(place, other):
                        told = tuple(near for near in net.near(place) if tuple(sorted((near, other))) in keeping)
                        self.alike(partners(net, place, other), told)
                    else:
                        self.refused(InvalidOperation, partners, net, place, other)


class GoneOn(Case):

    def right(self, net, place, steps, value):
        self.alike(value[:len(steps)], steps)
        behind = net
        for pair in value:
            self.assertIn(pair, looks.pairs_at(behind, place))
            behind = looks.led_past(behind, place, pair)
        self.alike(behind.degree(place), 3 if net.degree(place) % 2 else 0)
        self.alike(looks.beside(behind, place), looks.beside(net, place))

    def test_behind_any_steps_that_keep(self):
        for net in (*SMALL[:60], WHEEL, HUB, FULL):
            for place in net.places:
                for steps, behind in all_steps(net, place, 2):
                    if looks.beside(behind, place) == looks.beside(net, place) and is_ready(behind, place):
                        self.right(net, place, steps, gone_on(net, place, steps))
                    else:
                        self.refused(InvalidOperation, gone_on, net, place, steps)

    def test_told_steps(self):
        self.alike((gone_on(FULL, "d", ()), gone_on(ONE, "a", ()), gone_on(PAIR, "a", (("b", "b"),))),
                   ((), (), (("b", "b"), ("b", "b"))))
        self.refused(InvalidOperation, gone_on, FULL, "d", (("a", "b"),))
        self.refused(InvalidOperation, gone_on, PATH, "b", ())
        self.right(WHEEL, "z", (), gone_on(WHEEL, "z", ()))
        self.right(WHEEL, "a", (), gone_on(WHEEL, "a", ()))

    def test_places_with_four_and_five_ties(self):
        seen = set()
        for net in drawn_nets(400):
            for place in net.places:
                if net.degree(place) in (4, 5, 7) and len(net) > 3 and is_ready(net, place):
                    seen.add(net.degree(place))
                    self.right(net, place, (), gone_on(net, place, ()))
        self.assertEqual(seen, {4, 5, 7})

    def test_great_nets(self):
        for net in (CROWD, CROWD.untied("a", "i"), Net(tuple(LETTERS), {("a", other): 7 for other in LETTERS[1:]})):
            for place in ("a", "i"):
                self.right(net, place, (), gone_on(net, place, ()))
        self.alike(gone_on(SIXTY, "dock", ()), (("pier", "pier"),) * 30)
        self.alike(gone_on(SIXTY.untied("dock", "pier"), "dock", ()), (("pier", "pier"),) * 28)


class Whole(Case):

    def test_told_places(self):
        self.alike((whole_past(RING, "a"), whole_past(ONE, "a"), whole_past(LOOSE, "b")), ((("b", "e"),), (), ()))
        self.alike((whole_past(PATH, "b"), whole_past(PAIR, "b")), ((("a", "c"),), (("a", "a"), ("a", "a"))))
        self.alike(self.refused(NoWay, whole_past, FULL, "a").ends, "a")
        self.alike(self.refused(NoWay, whole_past, PATH, "a").ends, "a")

    def test_all_small_places(self):
        kinds = set()
        for net in (*[net for net in SMALL if len(net) < 6], PATH, WHEEL, STAR):
            for place in net.places:
                if net.degree(place) <= 6:
                    there = is_led_past(net, place, looks.beside(net, place), {})
                    kinds.add((is_ready(net, place), net.degree(place) % 2, there))
                    if there:
                        self.assertTrue(self.right(net, place, whole_past(net, place)))
                    else:
                        self.alike(self.refused(NoWay, whole_past, net, place).ends, place)
                        self.alike(self.refused(NoWay, left_net, net, place).ends, place)
        self.assertEqual(kinds, {(True, 0, True), (True, 1, False), (False, 0, True), (False, 0, False), (False, 1, False)})

    def right(self, net, place, value):
        if not isinstance(value, tuple):
            return False
        behind = net
        for pair in value:
            if pair not in looks.pairs_at(behind, place):
                return False
            behind = looks.led_past(behind, place, pair)
        return behind.degree(place) == 0 and looks.beside(behind, place) == looks.beside(net, place)

    def test_ready_places_with_an_even_number_of_ties(self):
        for net in drawn_nets(300):
            for place in net.places:
                if is_ready(net, place) and net.degree(place) % 2 == 0:
                    self.assertIs(is_whole_past(net, place, whole_past(net, place)), True)

    def test_places_that_are_not_ready(self):
        for net, there in ((Net(("a", "b", "c", "z"), {("a", "b"): 2, ("a", "z"): 2, ("b", "z"): 1, ("c", "z"): 1}), True),
                           (STAR, False),
                           (Net(("a", "b", "c", "d", "z"), {("a", "b"): 1, **{(tip, "z"): 1 for tip in "abcd"}}), False),
                           (Net(tuple(LETTERS), {("a", tip): 1 for tip in LETTERS[1:]}), False)):
            place = "a" if len(net) == 9 else "z"
            self.assertIs(is_ready(net, place), False)
            if there:
                self.assertTrue(self.right(net, place, whole_past(net, place)))
            else:
                self.alike(self.refused(NoWay, whole_past, net, place).ends, place)

    def test_too_many_nets(self):
        net = Net(("a", "b", "c", "d", "e"), {("a", "b"): 3, ("a", "c"): 1, ("a", "d"): 1, ("a", "e"): 1})
        self.assertTrue(self.right(net, "a", whole_past(net, "a")))
        with mock.patch.object(whole, "MAX_NETS", 1):
            self.alike(self.refused(TooMany, whole_past, net, "a").limit, 1)
            self.alike(self.refused(TooMany, left_net, net, "a").limit, 1)
            self.alike(whole_past(PATH, "b"), (("a", "c"),))
            self.refused(NoWay, whole_past, STAR, "z")
        with mock.patch.object(whole, "MAX_NETS", 0):
            self.alike(self.refused(TooMany, whole_past, PATH, "b").limit, 0)
            self.refused(NoWay, whole_past, FULL, "a")
            self.assertTrue(self.right(WHEEL, "z", whole_past(WHEEL, "z")))

    def test_is_whole_past(self):
        for net in (HUB, RING, PATH, PAIR, *SMALL[:25]):
            for place in net.places:
                for steps, _ in all_steps(net, place, 3):
                    self.assertIs(is_whole_past(net, place, steps), self.right(net, place, steps))
                    if self.right(net, place, steps):
                        for bent in looks.bends(steps):
                            self.assertIs(is_whole_past(net, place, bent), self.right(net, place, bent), bent)
        self.assertIs(is_whole_past(HUB, "z", (("a", "c"), ("a", "b"))), True)
        self.assertIs(is_whole_past(ONE, "a", ()), True)
        for value in (*STRANGE, 5, (), FULL, [("b", "e")], (["b", "e"],), (("e", "b"),), (("b", "e"), ("b", "e"))):
            self.assertIs(is_whole_past(RING, "a", value), False)

    def test_left_net(self):
        self.alike(left_net(RING, "a").ties, {('b', 'c'): 1, ('b', 'e'): 1, ('c', 'd'): 1, ('d', 'e'): 1})
        self.alike((left_net(PAIR, "a").lines, left_net(LOOSE, "b").lines, left_net(PATH, "b").lines),
                   (("b",), ("a c",), ("a c", "a c 1")))
        self.refused(InvalidOperation, left_net, ONE, "a")
        for net in (*SMALL, *ALL[:20]):
            for place in net.places:
                if len(net) > 1 and net.degree(place) % 2 == 0 and is_ready(net, place):
                    left = left_net(net, place)
                    self.alike(looks.numbers(left), looks.beside(net, place))
                    self.assertTrue(left == steps_net(net, place, whole_past(net, place)).without_place(place))


class Refused(Case):

    def test_no_nets(self):
        for value in NO_NETS:
            for call, rest in ((steps_net, (None,)), (do_keep, (None,)), (is_ready, ()), (partners, (None,)), (gone_on, (None,)),
                               (whole_past, ()), (is_whole_past, (None,)), (left_net, ())):
                self.refused(InvalidNet, call, value, "q", *rest)

    def test_unknown_places(self):
        for net in (FULL, ONE):
            for value in NO_PLACES:
                for call, rest in ((steps_net, (None,)), (do_keep, (None,)), (is_ready, ()), (partners, (None,)), (gone_on, (None,)),
                                   (whole_past, ()), (is_whole_past, (None,)), (left_net, ())):
                    self.alike(self.refused(UnknownPlace, call, net, value, *rest).asked, value)
                self.alike(self.refused(UnknownPlace, partners, net, "a", value).asked, value)

    def test_a_place_and_itself_are_not_tied(self):
        for net in (FULL, ONE):
            self.refused(InvalidOperation, partners, net, "a", "a")


if __name__ == "__main__":
    unittest.main()
