"""The signs of a net: | + - & in len [] == and iteration."""

import operator
import unittest

from keptways.base.nets import Net
from keptways.errors import InvalidNet, InvalidOperation, UnknownPlace
from tests.samples import ALL, CROWD, FULL, HUB, LOOSE, NAMED, NINE, NO_PLACES, ONE, PAIR, RING, SIXTY, STRANGE, Case

PATH = Net(("a", "b", "c"), {("a", "b"): 1, ("b", "c"): 1})
AWAY = Net(("x", "y"), {("x", "y"): 2})
SIGNS = (operator.or_, operator.add, operator.sub, operator.and_)


def many(net, pair):
    """The ties of a pair of words, which need not be places."""
    return net.ties.get(pair, 0)


class Signs(Case):

    def test_or(self):
        self.alike((PAIR | PATH).lines, ("a b c", "a b 4", "b c 1"))
        self.alike((AWAY | PATH).lines, ("a b c x y", "a b 1", "b c 1", "x y 2"))
        self.alike((SIXTY | SIXTY).lines, SIXTY.lines)
        self.alike((ONE | NINE).lines, NINE.lines)

    def test_plus(self):
        self.alike((PAIR + PATH).lines, ("a b c", "a b 5", "b c 1"))
        self.alike((AWAY + PATH).lines, ("a b c x y", "a b 1", "b c 1", "x y 2"))
        self.alike((HUB + HUB).degrees, {"a": 8, "b": 6, "c": 6, "z": 8})
        self.alike((SIXTY + ONE).lines, ("a dock pier", "dock pier 60"))

    def test_minus(self):
        self.alike((PAIR - PATH).lines, ("a b", "a b 3"))
        self.alike((PATH - PAIR).lines, ("a b c", "b c 1"))
        self.alike((PATH - AWAY).lines, PATH.lines)
        self.alike((SIXTY - SIXTY).lines, ("dock pier",))
        self.alike((HUB - LOOSE).lines, HUB.lines)

    def test_and(self):
        self.alike((PAIR & PATH).lines, ("a b", "a b 1"))
        self.alike((FULL & RING).lines, ("a b c d", "a b 1", "b c 1", "c d 1"))
        self.alike((ONE & NINE).lines, ("a",))
        self.alike((SIXTY & SIXTY).lines, SIXTY.lines)

    def test_all_pairs_of_nets(self):
        for one in ALL[:30]:
            for other in ALL[:30]:
                both = sorted({*one.places, *other.places})
                pairs = [(low, high) for low in both for high in both if low < high]
                sums = {pair: many(one, pair) + many(other, pair) for pair in pairs}
                greater = {pair: max(many(one, pair), many(other, pair)) for pair in pairs}
                lesser = {pair: min(many(one, pair), many(other, pair)) for pair in pairs}
                less = {pair: many(one, pair) - many(other, pair) for pair in pairs}
                common = [place for place in one.places if place in other.places]
                self.made(operator.add, one, other, both, sums)
                self.made(operator.or_, one, other, both, greater)
                self.made(operator.sub, one, other, one.places, less)
                if common:
                    self.made(operator.and_, one, other, common, lesser)
                else:
                    self.refused(InvalidOperation, operator.and_, one, other)

    def made(self, sign, one, other, places, counts):
        ties = {pair: number for pair, number in counts.items() if number > 0}
        if len(places) > 9 or sum(ties.values()) > 60:
            self.refused(InvalidNet, sign, one, other)
        else:
            net = sign(one, other)
            self.assertIs(type(net), Net)
            self.alike((net.places, net.ties), (tuple(places), ties))

    def test_no_nets(self):
        for value in (*STRANGE, 0, 1, (), {}, [], "a", ("a", "b"), {"a": "b"}, 10 ** 59):
            for sign in SIGNS:
                self.refused(InvalidOperation, sign, FULL, value)
                self.refused(InvalidOperation, sign, value, FULL)
                self.refused(InvalidOperation, sign, SIXTY, value)

    def test_no_common_place(self):
        self.refused(InvalidOperation, operator.and_, PATH, AWAY)
        self.refused(InvalidOperation, operator.and_, NINE, SIXTY)

    def test_no_such_net(self):
        self.refused(InvalidNet, operator.or_, NINE, AWAY)
        self.refused(InvalidNet, operator.add, NINE, AWAY)
        self.refused(InvalidNet, operator.or_, SIXTY, PATH)
        self.refused(InvalidNet, operator.add, SIXTY, SIXTY)
        self.refused(InvalidNet, operator.add, CROWD, PATH)
        self.refused(InvalidNet, operator.or_, Net(("a", "b"), {("a", "b"): 60}), PATH)

    def test_in_place_forms_make_new_nets(self):
        net = PAIR
        net += PATH
        self.alike((net.lines, PAIR.lines), (("a b c", "a b 5", "b c 1"), ("a b", "a b 4")))


class Places(Case):

    def test_in(self):
        for net in NAMED:
            for place in net.places:
                self.assertIs(place in net, True)
            for value in NO_PLACES:
                self.assertIs(value in net, False)

    def test_len(self):
        self.alike([len(net) for net in (ONE, NINE, FULL, SIXTY)], [1, 9, 4, 2])

    def test_iteration(self):
        for net in ALL:
            self.alike(tuple(net), net.places)
            self.alike([place for place in net], list(net.places))
        self.alike(list(Net(("c", "a", "b"))), ["a", "b", "c"])

    def test_item(self):
        self.alike(HUB["z"], {"a": 2, "b": 1, "c": 1})
        self.alike((RING["a"], ONE["a"], SIXTY["pier"]), ({"b": 1, "e": 1}, {}, {"dock": 60}))
        for net in ALL:
            for place in net.places:
                self.alike(net[place], {other: net.tied(other, place) for other in net.near(place)})

    def test_no_item(self):
        for net in (FULL, ONE, NINE):
            for value in NO_PLACES:
                self.alike(self.refused(UnknownPlace, operator.getitem, net, value).asked, value)


class Equal(Case):

    def test_equal_nets(self):
        self.equal(Net(("b", "a"), {("a", "b"): 4}), PAIR)
        self.equal(Net(("a", "b", "c"), {}), LOOSE)
        for net in ALL:
            self.equal(Net(net.places[::-1], dict(reversed(net.ties.items()))), net)

    def equal(self, one, other):
        self.assertIs(one == other, True)
        self.assertIs(one != other, False)

    def unlike(self, one, other):
        for first, second in ((one, other), (other, one)):
            self.assertIs(first == second, False)
            self.assertIs(first != second, True)

    def test_unlike_nets(self):
        for at, one in enumerate(NAMED):
            for other in NAMED[:at]:
                self.unlike(one, other)
        self.unlike(PAIR, Net(("a", "b"), {("a", "b"): 3}))
        self.unlike(PAIR, Net(("a", "b")))
        self.unlike(PAIR, Net(("a", "b", "c"), {("a", "b"): 4}))
        self.unlike(LOOSE, Net(("a", "b", "d")))
        self.unlike(PATH, Net(("a", "b", "c"), {("a", "b"): 1, ("a", "c"): 1}))

    def test_other_values(self):
        for net in (FULL, ONE, PAIR):
            for value in (*STRANGE, 0, 1, (), {}, [], net.places, list(net.places), net.ties, net.lines, str(net), (net,), [net]):
                self.unlike(net, value)


if __name__ == "__main__":
    unittest.main()
