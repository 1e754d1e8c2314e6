"""The methods that make other nets: joined, untied, with_place, without_place, merged, part, renamed."""

import unittest
from itertools import combinations

from keptways.base.nets import Net
from keptways.errors import InvalidLot, InvalidNet, InvalidNumber, InvalidOperation, InvalidWord, UnknownPlace
from tests import samples
from tests.samples import (ALL, CROWD, DEEP, FULL, HUB, LETTERS, LOOSE, NINE, NO_NUMBERS, NO_PLACES, NO_WORDS, ONE, PAIR, RING,
                           SIXTY, STRANGE, Case, single_ties)

NO_LOTS = (*samples.NO_LOTS, ())


def counted(pairs):
    """The dict of ties with each tie of a list."""
    ordered = [tuple(sorted(pair)) for pair in pairs]
    return {pair: ordered.count(pair) for pair in sorted(set(ordered))}


class Joined(Case):

    def test_joined(self):
        self.alike(HUB.joined("a", "b").ties[("a", "b")], 2)
        self.alike(HUB.joined("b", "a", 5).ties, {**HUB.ties, ("a", "b"): 6})
        self.alike(LOOSE.joined("c", "a", many=3).ties, {("a", "c"): 3})
        self.alike(LOOSE.joined("a", "b", 60).size, 60)
        self.alike(NINE.joined("h", "i").joined("a", "i").ties, {("a", "i"): 1, ("h", "i"): 1})
        self.alike(HUB.joined("a", "b").places, HUB.places)

    def test_untied(self):
        self.alike(HUB.untied("z", "a").ties[("a", "z")], 1)
        self.alike(HUB.untied("a", "z", 2).ties, counted([pair for pair in single_ties(HUB) if pair != ("a", "z")]))
        self.alike(SIXTY.untied("pier", "dock", 60).ties, {})
        self.alike(SIXTY.untied("pier", "dock", many=1).ties, {("dock", "pier"): 59})
        self.alike(HUB.untied("a", "z", 2).places, HUB.places)

    def test_none_at_all(self):
        for net in (HUB, SIXTY, LOOSE, CROWD):
            one, other = net.places[0], net.places[-1]
            self.assertTrue(net.joined(one, other, 0) == net)
            self.assertTrue(net.untied(one, other, 0) == net)

    def test_all_pairs(self):
        for net in ALL[:30]:
            for pair in net.pairs:
                ties = single_ties(net)
                if net.size < 60:
                    self.alike(net.joined(*pair).ties, counted([*ties, pair]))
                if pair in ties:
                    ties.remove(pair)
                    self.alike(net.untied(*reversed(pair)).ties, counted(ties))
                else:
                    self.alike(self.refused(InvalidNumber, net.untied, *pair).number, 1)

    def test_unknown_places(self):
        for call in (FULL.joined, FULL.untied):
            for value in NO_PLACES:
                self.alike(self.refused(UnknownPlace, call, value, "a").asked, value)
                self.alike(self.refused(UnknownPlace, call, "a", value).asked, value)
                self.alike(self.refused(UnknownPlace, call, "a", value, None).asked, value)
            self.alike(self.refused(UnknownPlace, call, "q", "r").asked, "q")
            self.alike(self.refused(UnknownPlace, call, "q", "q", -1).asked, "q")

    def test_equal_places(self):
        for call in (FULL.joined, FULL.untied):
            self.refused(InvalidOperation, call, "a", "a")
            self.refused(InvalidOperation, call, "a", "a", 0)
            self.refused(InvalidOperation, call, "a", "a", None)

    def test_numbers(self):
        for value in NO_NUMBERS:
            self.alike(self.refused(InvalidNumber, FULL.joined, "a", "b", value).number, value)
            self.alike(self.refused(InvalidNumber, FULL.untied, "a", "b", value).number, value)
            self.alike(self.refused(InvalidNumber, FULL.untied, "a", "b", many=value).number, value)

    def test_more_than_is_there(self):
        for net, one, other, many in ((FULL, "b", "a", 2), (RING, "a", "c", 1), (SIXTY, "dock", "pier", 61), (HUB, "z", "a", 3),
                                      (HUB, "a", "z", 10 ** 60 - 1)):
            self.alike(self.refused(InvalidNumber, net.untied, one, other, many).number, many)

    def test_too_many_ties(self):
        self.refused(InvalidNet, SIXTY.joined, "dock", "pier")
        self.refused(InvalidNet, CROWD.joined, "a", "i")
        self.refused(InvalidNet, FULL.joined, "a", "b", 55)
        self.alike(FULL.joined("a", "b", 54).size, 60)
        self.refused(InvalidNet, LOOSE.joined, "a", "b", 61)
        self.refused(InvalidNet, LOOSE.joined, "a", "b", 10 ** 60 - 1)


class Places(Case):

    def test_with_place(self):
        net = HUB.with_place("dock")
        self.alike((net.places, net.ties), (("a", "b", "c", "dock", "z"), HUB.ties))
        self.alike(ONE.with_place("abcdefgh").places, ("a", "abcdefgh"))
        self.alike(SIXTY.with_place("a").lines, ("a dock pier", "dock pier 60"))
        self.alike(NINE.without_place("a").with_place("z").places, tuple("bcdefghiz"))

    def test_with_place_refused(self):
        for value in NO_WORDS:
            self.refused(InvalidWord, FULL.with_place, value)
            self.refused(InvalidWord, NINE.with_place, value)
        self.refused(InvalidNet, FULL.with_place, "d")
        self.refused(InvalidNet, ONE.with_place, "a")
        self.refused(InvalidNet, NINE.with_place, "j")
        self.refused(InvalidNet, NINE.with_place, "a")

    def test_without_place(self):
        self.alike(HUB.without_place("z").ties, {("a", "b"): 1, ("a", "c"): 1, ("b", "c"): 1})
        self.alike(HUB.without_place("b").lines, ("a c z", "a c 1", "a z 2", "c z 1"))
        self.alike(SIXTY.without_place("dock").lines, ("pier",))
        for net in ALL:
            for place in net.places if len(net) > 1 else ():
                left = net.without_place(place)
                self.alike(left.places, tuple([other for other in net.places if other != place]))
                self.alike(left.ties, counted([pair for pair in single_ties(net) if place not in pair]))

    def test_without_place_refused(self):
        for value in NO_PLACES:
            self.alike(self.refused(UnknownPlace, FULL.without_place, value).asked, value)
            self.alike(self.refused(UnknownPlace, ONE.without_place, value).asked, value)
        self.refused(InvalidNet, ONE.without_place, "a")


class Lots(Case):

    def test_merged(self):
        self.alike(HUB.merged(("b", "c"), "m").lines, ("a m z", "a m 2", "a z 2", "m z 2"))
        self.alike(HUB.merged(("a", "b"), "b").lines, ("b c z", "b c 2", "b z 3", "c z 1"))
        self.alike(HUB.merged(("a", "b"), "zz").lines, ("c z zz", "c z 1", "c zz 2", "z zz 3"))
        self.alike(HUB.merged(("a",), "x").lines, ("b c x z", "b c 1", "b x 1", "b z 1", "c x 1", "c z 1", "x z 2"))
        self.alike(HUB.merged(("a",), "a").lines, HUB.lines)
        self.alike(FULL.merged(("a", "b", "c", "d"), "one").lines, ("one",))
        self.alike(ONE.merged(("a",), "b").lines, ("b",))
        self.alike(SIXTY.merged(("dock", "pier"), "dock").lines, ("dock",))
        self.alike(NINE.merged(("a", "i"), "x").places, tuple("bcdefghx"))

    def test_all_merged(self):
        for net in ALL[:40]:
            for many in range(1, min(len(net), 4) + 1):
                for lot in combinations(net.places, many):
                    for name in ("x", lot[0], lot[-1]):
                        if name in net.places and name not in lot:
                            continue
                        ends = [[name if place in lot else place for place in pair] for pair in single_ties(net)]
                        merged = net.merged(lot, name)
                        self.alike(merged.places, tuple(sorted({name, *net.places} - ({*lot} - {name}))))
                        self.alike(merged.ties, counted([pair for pair in ends if pair[0] != pair[1]]))

    def test_merged_refused(self):
        for value in NO_LOTS:
            self.refused(InvalidLot, FULL.merged, value, "m")
            self.refused(InvalidLot, FULL.merged, value, "M")
            self.refused(InvalidLot, FULL.merged, value, "a")
        for value in NO_WORDS:
            self.refused(InvalidWord, FULL.merged, ("a", "b"), value)
        for lot, name in ((("a", "b"), "c"), (("a",), "b"), (("b", "c", "d"), "a")):
            self.refused(InvalidNet, FULL.merged, lot, name)

    def test_part(self):
        self.alike(HUB.part(("a", "z")).lines, ("a z", "a z 2"))
        self.alike(HUB.part(("b",)).lines, ("b",))
        self.alike(RING.part(("a", "c")).lines, ("a c",))
        self.alike(SIXTY.part(("dock", "pier")).lines, SIXTY.lines)
        for net in ALL[:40]:
            for many in (1, 2, 3, len(net)):
                for lot in combinations(net.places, many):
                    part = net.part(lot)
                    self.alike(part.places, lot)
                    self.alike(part.ties, counted([pair for pair in single_ties(net) if {*pair} <= {*lot}]))

    def test_part_refused(self):
        for value in NO_LOTS:
            self.refused(InvalidLot, FULL.part, value)


class Renamed(Case):

    def test_renamed(self):
        self.alike(PAIR.renamed({"a": "x", "b": "c"}).lines, ("c x", "c x 4"))
        self.alike(PAIR.renamed({"b": "a", "a": "b"}).lines, PAIR.lines)
        self.alike(HUB.renamed({"z": "a", "c": "z", "b": "m", "a": "dock"}).lines,
                   ("a dock m z", "a dock 2", "a m 1", "a z 1", "dock m 1", "dock z 1", "m z 1"))
        self.alike(ONE.renamed({"a": "a"}).lines, ("a",))
        self.alike(SIXTY.renamed({"dock": "b", "pier": "a"}).lines, ("a b", "a b 60"))
        self.alike(NINE.renamed(dict(zip(LETTERS, reversed(LETTERS)))).lines, NINE.lines)

    def test_all_renamed(self):
        for net in ALL:
            names = {place: (place[0] + "q") if at % 2 else chr(ord("z") - at) for at, place in enumerate(net.places)}
            renamed = net.renamed(names)
            self.alike(renamed.places, tuple(sorted(names.values())))
            self.alike(renamed.ties, counted([[names[place] for place in pair] for pair in single_ties(net)]))

    def test_the_names_stay(self):
        names = {"b": "y", "a": "x"}
        net = PAIR.renamed(names)
        self.alike(names, {"b": "y", "a": "x"})
        names["a"] = "c"
        self.alike(net.lines, ("x y", "x y 4"))

    def test_no_names(self):
        for value in (*STRANGE, {}, {"a": "x"}, {"a": "x", "b": "x"}, {"a": "b", "b": "b"}, {"a": "x", "b": "y", "c": "z"},
                      {"a": "x", "c": "y"}, {"a": "x", "b": "Y"}, {"a": "x", "b": ""}, {"a": "x", "b": "wordwords"}, {"a": "x", 1: "y"},
                      {"a": "x", ("b",): "y"}, {"a": "x", None: "y"}, (("a", "x"), ("b", "y")), [("a", "x"), ("b", "y")], ("x", "y"),
                      ["x", "y"], "xy", PAIR, 5, {"x": "a", "y": "b"}):
            self.refused(InvalidOperation, PAIR.renamed, value)
        for value in NO_WORDS:
            self.refused(InvalidOperation, PAIR.renamed, {"a": value, "b": "y"})
            self.refused(InvalidOperation, PAIR.renamed, {"a": value, "b": value})
        self.refused(InvalidOperation, PAIR.renamed, {"a": "x", "b": DEEP})


if __name__ == "__main__":
    unittest.main()
