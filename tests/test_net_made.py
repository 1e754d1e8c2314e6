"""Net(places, ties), its properties, and what is copied in and out."""

import unittest

from keptways.base.nets import MAX_PLACES, MAX_TIES, Net
from keptways.errors import InvalidNet
from tests.samples import (ALL, CROWD, FULL, HUB, LETTERS, LONG_TEXT, LOOSE, NINE, NO_NUMBERS, NO_WORDS, ONE, PAIR, RING,
                           SIXTY, STRANGE, Case, single_ties)

ABC = ("a", "b", "c")


class Made(Case):

    def test_constants(self):
        self.alike((MAX_PLACES, MAX_TIES), (9, 60))

    def test_the_nets_of_the_examples(self):
        self.alike((FULL.size, RING.size, PAIR.size, HUB.size), (6, 5, 4, 7))
        self.alike(PAIR.ties, {("a", "b"): 4})
        self.alike(HUB.places, ("a", "b", "c", "z"))

    def test_one_and_nine_places(self):
        self.alike((ONE.places, ONE.ties), (("a",), {}))
        self.alike((NINE.places, NINE.ties), (tuple(LETTERS), {}))

    def test_no_and_ten_places(self):
        self.refused(InvalidNet, Net, ())
        self.refused(InvalidNet, Net, tuple("abcdefghij"))
        self.refused(InvalidNet, Net, ("a",) * 5000)

    def test_places_in_any_order(self):
        net = Net(("c", "ab", "b", "a"), {("b", "c"): 2, ("a", "c"): 3, ("a", "ab"): 1})
        self.alike(net.places, ("a", "ab", "b", "c"))
        self.alike(net.ties, {("a", "ab"): 1, ("a", "c"): 3, ("b", "c"): 2})

    def test_places_twice(self):
        for places in (("a", "a"), ("a", "b", "a"), ("b", "a", "b", "c")):
            self.refused(InvalidNet, Net, places)

    def test_places_that_are_no_words(self):
        for value in NO_WORDS:
            self.refused(InvalidNet, Net, ("b", value))
            self.refused(InvalidNet, Net, (value,), {})

    def test_places_that_are_no_tuple(self):
        for value in (*STRANGE, ["a", "b"], [], {"a": "b"}, {"a": 1}, "a", "ab", LONG_TEXT, 1, FULL, InvalidNet("a")):
            self.refused(InvalidNet, Net, value)
            self.refused(InvalidNet, Net, value, {})

    def test_no_ties(self):
        for net in (Net(ABC), Net(ABC, None), Net(ABC, {}), Net(places=ABC, ties=None)):
            self.assertTrue(net == LOOSE)
            self.alike(net.ties, {})

    def test_numbers_of_ties(self):
        for many in (1, 2, 59, 60):
            self.alike(Net(ABC, {("a", "b"): many}).ties, {("a", "b"): many})
        for many in (0, -1, 61, 99, *NO_NUMBERS):
            self.refused(InvalidNet, Net, ABC, {("a", "b"): many})
            self.refused(InvalidNet, Net, ABC, {("a", "c"): 1, ("a", "b"): many})

    def test_sums_of_ties(self):
        self.alike(Net(ABC, {("a", "b"): 30, ("a", "c"): 29, ("b", "c"): 1}).size, 60)
        self.refused(InvalidNet, Net, ABC, {("a", "b"): 30, ("a", "c"): 29, ("b", "c"): 2})
        self.refused(InvalidNet, Net, ABC, {("a", "b"): 60, ("a", "c"): 1})
        self.refused(InvalidNet, Net, ABC, {("a", "b"): 61, ("a", "c"): -1})
        self.alike((SIXTY.size, CROWD.size), (60, 60))

    def test_pairs_that_are_none(self):
        for pair in (("b", "a"), ("a", "a"), ("a", "d"), ("d", "e"), ("A", "b"), ("a", "B"), ("a",), ("a", "b", "c"), (), "ab",
                     "a", 1, 0, True, None, ("a", 1), (1, "a"), (("a", "b"), "c"), ("a", ("b",)), (1, 2), LONG_TEXT, 10 ** 99):
            self.refused(InvalidNet, Net, ABC, {pair: 1})
            self.refused(InvalidNet, Net, ABC, {("b", "c"): 1, pair: 1})

    def test_ties_that_are_no_dict(self):
        for value in (True, False, 0, 1, -1, 10 ** 99, "", "ab", (), [], (("a", "b"),), [("a", "b")], ((("a", "b"), 1),),
                      [(("a", "b"), 1)], LONG_TEXT, FULL, InvalidNet("a")):
            self.refused(InvalidNet, Net, ABC, value)

    def test_both_wrong(self):
        self.refused(InvalidNet, Net, [], 5)
        self.refused(InvalidNet, Net, None, {("b", "a"): True})


class Properties(Case):

    def test_places_and_ties_ascend(self):
        for net in ALL:
            self.assertEqual(list(net.places), sorted(set(net.places)))
            self.assertEqual(list(net.ties), sorted(net.ties))

    def test_lines(self):
        self.alike(ONE.lines, ("a",))
        self.alike(NINE.lines, ("a b c d e f g h i",))
        self.alike(SIXTY.lines, ("dock pier", "dock pier 60"))
        self.alike(HUB.lines, ("a b c z", "a b 1", "a c 1", "a z 2", "b c 1", "b z 1", "c z 1"))

    def test_degrees(self):
        self.alike(ONE.degrees, {"a": 0})
        self.alike(SIXTY.degrees, {"dock": 60, "pier": 60})
        self.alike(Net(("c", "b", "a"), {("a", "c"): 3, ("b", "c"): 2}).degrees, {"a": 3, "b": 2, "c": 5})
        for net in ALL:
            ends = [place for pair in single_ties(net) for place in pair]
            self.alike(net.degrees, {place: ends.count(place) for place in net.places})

    def test_size(self):
        for net in ALL:
            self.alike(net.size, len(single_ties(net)))

    def test_pairs(self):
        self.alike(ONE.pairs, ())
        self.alike(PAIR.pairs, (("a", "b"),))
        self.alike(LOOSE.pairs, (("a", "b"), ("a", "c"), ("b", "c")))
        self.alike(len(NINE.pairs), 36)
        for net in ALL:
            self.alike(net.pairs, tuple(sorted([(one, other) for one in net.places for other in net.places if one < other])))

    def test_odd_and_even(self):
        self.alike((FULL.odd, FULL.even), (("a", "b", "c", "d"), ()))
        self.alike((RING.odd, RING.even), ((), ("a", "b", "c", "d", "e")))
        self.alike((HUB.odd, HUB.even), (("b", "c"), ("a", "z")))
        self.alike((ONE.odd, ONE.even), ((), ("a",)))
        for net in ALL:
            self.alike(net.odd, tuple([place for place, many in net.degrees.items() if many in range(1, 61, 2)]))
            self.alike(net.even, tuple([place for place, many in net.degrees.items() if many in range(0, 61, 2)]))

    def test_properties_can_not_be_set(self):
        for name in ("places", "ties", "lines", "degrees", "size", "pairs", "odd", "even"):
            with self.assertRaises(AttributeError):
                setattr(FULL, name, None)

    def test_text(self):
        self.alike([str(net) for net in (FULL, ONE, NINE, SIXTY, CROWD)],
                   ["4 places, 6 ties", "1 places, 0 ties", "9 places, 0 ties", "2 places, 60 ties", "9 places, 60 ties"])


class Copies(Case):

    def test_what_was_passed_in_can_change(self):
        ties = {("b", "c"): 2, ("a", "b"): 1}
        net = Net(("c", "b", "a"), ties)
        self.alike(ties, {("b", "c"): 2, ("a", "b"): 1})
        ties[("a", "b")] = 9
        ties[("a", "c")] = 9
        del ties[("b", "c")]
        self.alike(net.ties, {("a", "b"): 1, ("b", "c"): 2})
        self.alike(net.size, 3)

    def test_what_was_handed_out_can_change(self):
        net = Net(ABC, {("a", "b"): 1, ("b", "c"): 2})
        net.ties[("a", "b")] = 9
        net.ties.clear()
        net.degrees["a"] = 9
        net.degrees.clear()
        net["b"]["a"] = 9
        net["b"].clear()
        self.alike(net.ties, {("a", "b"): 1, ("b", "c"): 2})
        self.alike(net.degrees, {"a": 1, "b": 3, "c": 2})
        self.alike(net["b"], {"a": 1, "c": 2})

    def test_the_order_of_a_dict_has_no_effect(self):
        one = Net(ABC, {("a", "b"): 1, ("a", "c"): 3, ("b", "c"): 2})
        other = Net(("b", "c", "a"), {("b", "c"): 2, ("a", "c"): 3, ("a", "b"): 1})
        self.assertTrue(one == other)
        self.alike((one.ties, one.lines, one.degrees, one["c"]), (other.ties, other.lines, other.degrees, other["c"]))


if __name__ == "__main__":
    unittest.main()
