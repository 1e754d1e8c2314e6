"""Class Streets."""

import operator
import unittest

from keptways.base.nets import Net
from keptways.errors import InvalidLot, InvalidNet, InvalidOperation, InvalidStreets, InvalidWays, UnknownPlace
from keptways.grow.halves import halved
from keptways.grow.streets import Streets, is_streets, one_way_paper
from tests import looks, looks_along
from tests.samples import ALL, CROWD, LOOSE, NO_LOTS, NO_NETS, NO_PLACES, ONE, PAIR, RING, STRANGE, Case
from tests.test_streets import MADE, NO_STREETS, TRIO

ROUND = {("a", "b"): 1, ("b", "c"): 1, ("c", "d"): 1, ("d", "e"): 1, ("e", "a"): 1}


def made():
    return Streets(TRIO, {("b", "c"): 1, ("b", "a"): 1, ("a", "b"): 1})


class Told(Case):

    def test_properties(self):
        streets = made()
        self.assertTrue(streets.net == TRIO)
        self.alike((streets.arrows, streets.least), ({("a", "b"): 1, ("b", "a"): 1, ("b", "c"): 1}, 0))
        self.alike((Streets(ONE, {}).arrows, Streets(ONE, {}).least, Streets(LOOSE, {}).least, Streets(RING, ROUND).least),
                   ({}, None, 0, 1))
        for net, told in MADE:
            streets = Streets(net, dict(reversed(told.items())))
            self.alike(streets.arrows, told)
            self.alike(streets.least, min(looks_along.one_ways(net, told).values(), default=None))

    def test_leaving_and_coming(self):
        for net, told in MADE:
            streets = Streets(net, told)
            for lot in looks.all_lots(net.places):
                rest = tuple(place for place in net.places if place not in lot)
                self.alike((streets.leaving(lot), streets.coming(lot)),
                           (looks_along.leaving(told, lot), looks_along.leaving(told, rest)))
        for value in NO_LOTS:
            self.refused(InvalidLot, made().leaving, value)
            self.refused(InvalidLot, made().coming, value)

    def test_from_to(self):
        for net, told in MADE[:40]:
            for (one, other), many in looks_along.one_ways(net, told).items():
                self.alike(Streets(net, told).from_to(one, other), many)
        for value in NO_PLACES:
            self.alike(self.refused(UnknownPlace, made().from_to, value, "z").asked, value)
            self.alike(self.refused(UnknownPlace, made().from_to, "a", value).asked, value)
        self.refused(InvalidOperation, made().from_to, "a", "a")

    def test_spread(self):
        self.alike(made().spread(), {"a": 0, "b": 1, "c": -1})
        self.alike((Streets(ONE, {}).spread(), Streets(PAIR, {("b", "a"): 4}).spread()), ({"a": 0}, {"a": -4, "b": 4}))
        for net, told in MADE:
            steps = looks_along.single_streets(told)
            self.alike(Streets(net, told).spread(),
                       {place: sum((one == place) - (other == place) for one, other in steps) for place in net.places})

    def test_rounds(self):
        self.alike((made().rounds(), Streets(ONE, {}).rounds(), Streets(LOOSE, {}).rounds(), Streets(RING, ROUND).rounds()),
                   ((("a", "b"), ("c",)), (("a",),), (("a",), ("b",), ("c",)), (RING.places,)))
        for net, told in MADE:
            self.alike(Streets(net, told).rounds(), looks_along.rounds(net, told))
        one = Net(("a", "b", "c", "d"), {("a", "c"): 2, ("b", "d"): 2, ("a", "b"): 1})
        self.alike(Streets(one, {("a", "c"): 1, ("c", "a"): 1, ("b", "d"): 1, ("d", "b"): 1, ("b", "a"): 1}).rounds(),
                   (("a", "c"), ("b", "d")))

    def test_text_and_len(self):
        self.alike((str(made()), len(made()), list(made())), ("3 streets, 0 from each to each", 3, [("a", "b"), ("b", "a"), ("b", "c")]))
        self.alike((str(Streets(ONE, {})), len(Streets(ONE, {})), list(Streets(ONE, {}))), ("0 streets, 0 from each to each", 0, []))
        self.alike((str(Streets(PAIR, {("a", "b"): 2, ("b", "a"): 2})), len(Streets(PAIR, {("a", "b"): 4}))),
                   ("4 streets, 2 from each to each", 1))

    def test_in(self):
        for net, told in MADE[:20]:
            for one in "abcdefq":
                for other in "abcdefq":
                    self.assertIs((one, other) in Streets(net, told), (one, other) in told)
        for value in (*STRANGE, 1, (), "ab", ("a", "b", 1), ["a", "b"], TRIO, made()):
            self.assertIs(value in made(), False)

    def test_equal(self):
        streets = made()
        self.assertIs(streets == Streets(TRIO, {("a", "b"): 1, ("b", "a"): 1, ("b", "c"): 1}), True)
        self.assertIs(streets != made(), False)
        self.assertIs(Streets(ONE, {}) == Streets(LOOSE, {}), False)
        for value in (*STRANGE, 3, TRIO, streets.arrows, streets.turned(), str(streets), (streets,),
                      Streets(TRIO, {("a", "b"): 2, ("b", "c"): 1})):
            self.assertIs(streets == value, False)
            self.assertIs(value == streets, False)
            self.assertIs(streets != value, True)

    def test_refused(self):
        for value in NO_NETS:
            self.refused(InvalidNet, Streets, value, None)
        for value in NO_STREETS:
            self.refused(InvalidStreets, Streets, TRIO, value)

    def test_never_changes(self):
        told = {("b", "c"): 1, ("b", "a"): 2}
        streets = Streets(TRIO, told)
        told["b", "c"] = 9
        streets.arrows["b", "c"] = 9
        streets.spread()["a"] = 9
        for name in ("net", "arrows", "least"):
            with self.assertRaises(AttributeError):
                setattr(streets, name, 1)
        with self.assertRaises(TypeError):
            operator.getitem(streets, ("b", "c"))
        streets.turned()
        streets.turned_at("b", "a")
        streets.turned_along(("b", "c"))
        self.assertTrue(streets == Streets(TRIO, {("b", "c"): 1, ("b", "a"): 2}))
        self.alike(streets.arrows, {("b", "a"): 2, ("b", "c"): 1})


class Turned(Case):

    def test_turned(self):
        self.alike(made().turned().arrows, {("a", "b"): 1, ("b", "a"): 1, ("c", "b"): 1})
        for net, told in MADE[:40]:
            streets = Streets(net, told)
            turned = streets.turned()
            self.assertIs(type(turned), Streets)
            self.assertTrue(turned.turned() == streets and turned.net == net)
            self.alike(turned.least, streets.least)
            self.alike(turned.arrows, looks_along.counted_steps([step[::-1] for step in looks_along.single_streets(told)]))

    def test_turned_at(self):
        self.alike(made().turned_at("a", "b").arrows, {("b", "a"): 2, ("b", "c"): 1})
        self.alike(made().turned_at("b", "c").arrows, {("a", "b"): 1, ("b", "a"): 1, ("c", "b"): 1})
        for net, told in MADE[:40]:
            streets = Streets(net, told)
            for one, other in told:
                turned = streets.turned_at(one, other)
                steps = looks_along.single_streets(told)
                steps.remove((one, other))
                self.alike(turned.arrows, looks_along.counted_steps([*steps, (other, one)]))
                self.assertTrue(turned.turned_at(other, one) == streets)
        for one, other in (("a", "a"), ("c", "b"), ("a", "c"), ("c", "a")):
            self.refused(InvalidOperation, made().turned_at, one, other)
        for value in NO_PLACES:
            self.alike(self.refused(UnknownPlace, made().turned_at, value, "z").asked, value)
            self.alike(self.refused(UnknownPlace, made().turned_at, "a", value).asked, value)

    def test_turned_along(self):
        self.alike(made().turned_along(("a", "b", "c")).arrows, {("b", "a"): 2, ("c", "b"): 1})
        self.alike(made().turned_along(("b", "a")).arrows, {("a", "b"): 2, ("b", "c"): 1})
        turned = Streets(RING, ROUND).turned_along(("b", "c", "d", "e", "a"))
        self.assertIs(type(turned), Streets)
        self.alike(turned.arrows, {("a", "b"): 1, ("a", "e"): 1, ("c", "b"): 1, ("d", "c"): 1, ("e", "d"): 1})
        self.assertTrue(turned.turned_along(("a", "e", "d", "c", "b")) == Streets(RING, ROUND))
        for value in (*STRANGE, 1, (), ("a",), ("c", "b"), ("a", "c"), ("a", "b", "a"), ("b", "a", "b"), ["a", "b"], "ab", ("a", "b", "q"),
                      ("c", "b", "a"), (("a", "b"), ("b", "c")), ("a", "b", 1), ("a", "a")):
            self.refused(InvalidWays, made().turned_along, value)

    def test_balance_comes_of_turning_along_ways(self):
        for net in ALL[:40]:
            streets = Streets(net, halved(net))
            for one, other in net.pairs[:4]:
                if streets.from_to(one, other) > 0:
                    way = one_way_paper(net, streets.arrows, one, other)[0][0]
                    turned = streets.turned_along(way)
                    self.alike(turned.from_to(one, other), streets.from_to(one, other) - 1)
                    self.assertIs(is_streets(net, turned.arrows), True)

    def test_great_streets(self):
        streets = Streets(CROWD, halved(CROWD))
        self.alike((len(streets.rounds()), streets.turned().least), (1, streets.least))


if __name__ == "__main__":
    unittest.main()
