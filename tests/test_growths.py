"""Class Growth."""

import operator
import unittest

from keptways.base.nets import Net
from keptways.errors import InvalidGrowth, InvalidNumber, InvalidOperation
from keptways.grow.growth import Growth, growth_of, grown, is_growth
from tests import looks
from tests.samples import ALL, CROWD, FULL, HUB, LETTERS, NO_NUMBERS, NO_PLACES, NO_WORDS, PAIR, RING, STRANGE, Case
from tests.test_growth import FOLDED, GROWTH, NO_HALVES, PINCH

ONLY = Growth(1, ("dock",))


def made():
    return Growth(2, GROWTH)


def growths():
    """Growths of many nets."""
    return [Growth(half, growth_of(net, half)) for net in (*ALL[:40], *FOLDED) for half in (1, 2)
            if min(looks.numbers(net).values(), default=60) >= 2 * half]


class Told(Case):

    def test_properties(self):
        growth = made()
        self.alike((growth.half, growth.first, growth.steps, growth.born), (2, "a", GROWTH[1:], ("a", "b", "c")))
        self.alike([net.lines for net in growth.nets],
                   [("a",), ("a b", "a b 4"), ("a b", "a b 5"), ("a b c", "a b 3", "a c 2", "b c 2")])
        self.assertTrue(growth.net == growth.nets[-1])
        self.alike((ONLY.half, ONLY.first, ONLY.steps, ONLY.born, ONLY.net.lines, len(ONLY.nets)), (1, "dock", (), ("dock",), ("dock",), 1))

    def test_nets_along(self):
        for growth in growths():
            self.assertTrue(growth.net == grown(growth.half, (growth.first, *growth.steps)))
            self.alike(len(growth.nets), len(growth) + 1)
            for index, net in enumerate(growth.nets):
                part = growth.upto(index)
                self.assertIs(type(part), Growth)
                self.assertTrue(net == growth.net_at(index) == part.net == grown(growth.half, (growth.first, *growth.steps[:index])))
                self.alike((part.half, part.first, part.steps), (growth.half, growth.first, growth.steps[:index]))
            self.assertEqual(sorted(growth.born), [*growth.net.places])
            self.assertTrue(growth.upto(len(growth)) == growth)

    def test_no_index(self):
        for growth in (made(), ONLY):
            for value in (*NO_NUMBERS, len(growth) + 1, 10 ** 60 - 1):
                self.alike(self.refused(InvalidNumber, growth.net_at, value).number, value)
                self.alike(self.refused(InvalidNumber, growth.upto, value).number, value)

    def test_refused(self):
        for value in NO_HALVES:
            self.alike(self.refused(InvalidNumber, Growth, value, None).number, value)
        for value in (*STRANGE, 5, (), ("A",), [*GROWTH], GROWTH[1:], (*GROWTH, ("tie", "a", "z"))):
            self.refused(InvalidGrowth, Growth, 2, value)
        self.refused(InvalidGrowth, Growth, 1, GROWTH)
        self.alike(Growth(30, ("a",)).half, 30)

    def test_text_and_len(self):
        self.alike((str(made()), len(made()), list(made()), tuple(made())), ("3 steps, 2 pinches", 3, [*GROWTH[1:]], GROWTH[1:]))
        self.alike((str(ONLY), len(ONLY), list(ONLY)), ("0 steps, 0 pinches", 0, []))

    def test_in(self):
        for growth in growths():
            for place in (*LETTERS, "q"):
                self.assertIs(place in growth, place in growth.net.places)
        for value in (*NO_PLACES, "d", PINCH, GROWTH):
            self.assertIs(value in made(), False)

    def test_equal(self):
        growth = made()
        self.assertIs(growth == made(), True)
        self.assertIs(growth != made(), False)
        self.assertIs(Growth(1, ("a",)) == Growth(2, ("a",)), False)
        self.assertIs(Growth(1, ("a",)) == Growth(1, ("b",)), False)
        turned = Growth(2, (*GROWTH[:2], ("tie", "b", "a"), GROWTH[3]))
        for value in (*STRANGE, 3, GROWTH, GROWTH[1:], growth.net, turned, growth.upto(2), str(growth), (growth,)):
            self.assertIs(growth == value, False)
            self.assertIs(value == growth, False)
            self.assertIs(growth != value, True)

    def test_never_changes(self):
        growth = made()
        for name in ("half", "first", "steps", "nets", "net", "born"):
            with self.assertRaises(AttributeError):
                setattr(growth, name, 1)
        growth.with_tie("a", "c")
        growth.net.ties["a", "b"] = 9
        self.assertTrue(growth == made())
        self.alike(growth.net.lines, made().net.lines)
        with self.assertRaises(TypeError):
            operator.getitem(growth, 0)


class Made(Case):

    def test_with_tie(self):
        more = made().with_tie("c", "a")
        self.alike((more.steps, more.half, more.net.tied("a", "c")), ((*GROWTH[1:], ("tie", "c", "a")), 2, 3))
        self.assertIs(is_growth(more.net, 2, ("a", *more.steps)), True)
        for value in (*NO_PLACES, "z"):
            self.refused(InvalidGrowth, made().with_tie, value, "a")
            self.refused(InvalidGrowth, made().with_tie, "a", value)
        self.refused(InvalidGrowth, made().with_tie, "a", "a")
        self.refused(InvalidGrowth, ONLY.with_tie, "dock", "dock")
        full = Growth(30, ("a", ("pinch", "b", (("a", "a"),) * 30)))
        self.refused(InvalidGrowth, full.with_tie, "a", "b")

    def test_with_pinch(self):
        more = made().with_pinch("aa", (("a", "c"), ("b", "b")))
        self.alike((more.born, more.net.lines), (("a", "b", "c", "aa"), ("a aa b c", "a aa 1", "a b 3", "a c 1", "aa b 2", "aa c 1", "b c 2")))
        self.assertIs(type(more), Growth)
        for value in (*NO_WORDS, "a", "b", "c"):
            self.refused(InvalidGrowth, made().with_pinch, value, (("a", "a"), ("a", "a")))
        for value in (*STRANGE, (), (("a", "a"),), (("a", "a"),) * 3, [("a", "a")] * 2, (("a", "a"), ("b", "a")), (("b", "c"),) * 3,
                      (("a", "a"), ("a", "d"))):
            self.refused(InvalidGrowth, made().with_pinch, "d", value)

    def test_named(self):
        growth = made().named({"a": "z", "c": "a", "b": "m"})
        self.alike(("z", *growth.steps), ("z", ("pinch", "m", (("z", "z"), ("z", "z"))), ("tie", "z", "m"),
                                          ("pinch", "a", (("m", "z"), ("m", "z")))))
        self.alike((growth.first, growth.born, growth.half, growth.net.lines),
                   ("z", ("z", "m", "a"), 2, ("a m z", "a m 2", "a z 2", "m z 3")))
        self.alike(ONLY.named({"dock": "pier"}).net.lines, ("pier",))
        for growth in growths():
            names = dict(zip(growth.net.places, reversed(growth.net.places)))
            turned = growth.named(names)
            self.assertTrue(turned.net == growth.net.renamed(names))
            self.assertTrue(turned.named(names) == growth)
            self.assertEqual(turned.born, tuple(names[place] for place in growth.born))

    def test_no_names(self):
        for value in (*STRANGE, {}, {"a": "x", "b": "y"}, {"a": "x", "b": "y", "c": "x"}, {"a": "x", "b": "y", "c": "z", "d": "q"},
                      {"a": "x", "b": "y", "d": "z"}, ("x", "y", "z"), [("a", "x")], FULL, {"a": "x", "b": "y", "c": "Z"}):
            self.refused(InvalidOperation, made().named, value)
        for value in NO_WORDS:
            self.refused(InvalidOperation, made().named, {"a": "x", "b": "y", "c": value})

    def test_great_growths(self):
        for net in (CROWD, HUB, RING, PAIR, Net(("a", "b"), {("a", "b"): 60})):
            growth = Growth(1, growth_of(net, 1))
            self.assertTrue(growth.net == net)
            self.assertTrue(growth.upto(0).net == Net((growth.first,)))


if __name__ == "__main__":
    unittest.main()
