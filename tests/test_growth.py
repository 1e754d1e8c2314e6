"""Growth: pinched, grown, holds_all, weak_lot, thinned, growth_of, growth papers."""

import random
import re
import unittest

from keptways.base.nets import Net
from keptways.errors import InvalidGrowth, InvalidNet, InvalidNumber, InvalidOperation, InvalidWord, NoWay
from keptways.grow.growth import (growth_of, growth_paper, grown, holds_all, is_growth, is_growth_paper, is_thin, pinched, thinned,
                                  weak_lot)
from tests import looks
from tests.samples import (ALL, CROWD, FULL, HUB, LETTERS, LOOSE, NINE, NO_NETS, NO_NUMBERS, NO_WORDS, ONE, PAIR, RING, SIXTY, SMALL,
                           STRANGE, Case, single_ties)

PINCH = ("pinch", "b", (("a", "a"), ("a", "a")))
GROWTH = ("a", PINCH, ("tie", "a", "b"), ("pinch", "c", (("a", "b"), ("a", "b"))))
NO_HALVES = (*NO_NUMBERS, 0, 31, 10 ** 60 - 1)


def behind_pinch(net, place, pairs):
    """The net behind a pinch, made of a list of ties; None where a tie is lacking."""
    ties = single_ties(net)
    for one, other in pairs:
        if one != other:
            if (one, other) not in ties:
                return None
            ties.remove((one, other))
    return Net((*net.places, place), looks.counted([*ties, *[(tip, place) for pair in pairs for tip in pair]]))


def right_pairs(net, pairs):
    return isinstance(pairs, tuple) and all(isinstance(pair, tuple) and len(pair) == 2 and all(isinstance(tip, str) for tip in pair)
                                            and {*pair} <= {*net.places} and pair[0] <= pair[1] for pair in pairs)


def grown_by_look(half, growth):
    """The net of a growth, or None if it is none."""
    if not isinstance(growth, tuple) or not growth or not isinstance(growth[0], str) or not re.fullmatch("[a-z]{1,8}", growth[0]):
        return None
    net = Net((growth[0],))
    for step in growth[1:]:
        if not isinstance(step, tuple) or len(step) != 3 or not isinstance(step[0], str) or not isinstance(step[1], str):
            return None
        try:
            if step[0] == "tie" and isinstance(step[2], str) and {*step[1:]} <= {*net.places} and step[1] != step[2]:
                net = Net(net.places, looks.counted([*single_ties(net), step[1:]]))
            elif step[0] == "pinch" and step[1] not in net.places and right_pairs(net, step[2]) and len(step[2]) == half:
                net = behind_pinch(net, step[1], step[2])
            else:
                return None
        except InvalidNet:
            return None
        if net is None:
            return None
    return net


def folded_nets(many):
    """Nets of many sizes, with up to sixty ties."""
    draw = random.Random(11)
    nets = []
    for _ in range(many):
        places = LETTERS[:draw.randint(2, 9)]
        pairs = [(one, other) for one in places for other in places if one < other]
        pairs = draw.sample(pairs, draw.randint(min(len(places), len(pairs)), len(pairs)))
        nets.append(Net(tuple(places), looks.counted([draw.choice(pairs) for _ in range(draw.randint(0, 60))])))
    return nets


FOLDED = folded_nets(60)


class Pinched(Case):

    def test_pinched(self):
        self.alike(pinched(PAIR, "c", (("a", "b"), ("b", "b"))).ties, {("a", "b"): 3, ("a", "c"): 1, ("b", "c"): 3})
        self.alike(pinched(ONE, "b", (("a", "a"),)).lines, ("a b", "a b 2"))
        self.alike(pinched(ONE, "b", ()).lines, ("a b",))
        self.alike(pinched(PAIR, "c", (("a", "b"),) * 4).ties, {("a", "c"): 4, ("b", "c"): 4})
        self.alike(pinched(FULL, "abc", (("c", "d"), ("a", "b"))).lines,
                   ("a abc b c d", "a abc 1", "a c 1", "a d 1", "abc b 1", "abc c 1", "abc d 1", "b c 1", "b d 1"))
        for net in SMALL[:40]:
            pairs = tuple(net.ties)
            self.alike(pinched(net, "zz", pairs).lines, behind_pinch(net, "zz", pairs).lines)
            self.alike(pinched(net, "zz", pairs[::-1]).lines, behind_pinch(net, "zz", pairs).lines)
            loops = tuple((place, place) for place in net.places)
            self.alike(pinched(net, "m", loops).lines, behind_pinch(net, "m", loops).lines)

    def test_a_pinch_keeps_the_fold(self):
        for net in FOLDED:
            half = min(looks.numbers(net).values()) // 2
            pairs = tuple(single_ties(net))[:half]
            if len(net) < 9 and len(pairs) == half and net.size + half <= 60:
                self.assertTrue(holds_all(pinched(net, "z", pairs), 2 * half))

    def test_no_pinch(self):
        for value in NO_WORDS:
            self.refused(InvalidWord, pinched, FULL, value, None)
            self.refused(InvalidWord, pinched, NINE, value, ())
        for place in FULL.places:
            self.refused(InvalidOperation, pinched, FULL, place, ())
        self.refused(InvalidOperation, pinched, NINE, "a", ())
        for value in (*STRANGE, 5, "ab", ("a", "b"), [("a", "b")], (["a", "b"],), (("b", "a"),), (("a", "b"),) * 5, (("a", "c"),), (("a", "b"), ()),
                      (("a", "b", "a"),), (("a", "b"), None), {("a", "b"): 1}, (("q", "q"),), (("c", "c"),), (("a",),)):
            self.refused(InvalidOperation, pinched, PAIR, "c", value)

    def test_no_net(self):
        self.refused(InvalidNet, pinched, NINE, "j", ())
        self.refused(InvalidNet, pinched, NINE, "j", (("a", "a"),))
        self.refused(InvalidNet, pinched, SIXTY, "a", (("dock", "dock"),))
        self.refused(InvalidNet, pinched, SIXTY, "a", (("dock", "pier"),))
        self.refused(InvalidNet, pinched, ONE, "b", (("a", "a"),) * 31)
        self.alike(pinched(ONE, "b", (("a", "a"),) * 30).size, 60)
        self.alike(pinched(SIXTY, "a", ()).size, 60)


class Grown(Case):

    def test_grown(self):
        self.alike(grown(2, GROWTH).ties, {("a", "b"): 3, ("a", "c"): 2, ("b", "c"): 2})
        self.alike((grown(1, ("dock",)).lines, grown(30, ("a", ("pinch", "b", (("a", "a"),) * 30))).lines), (("dock",), ("a b", "a b 60")))
        self.alike(grown(2, (*GROWTH, ("tie", "c", "a"))).tied("a", "c"), 3)
        self.assertIs(is_growth(grown(2, GROWTH), 2, GROWTH), True)
        self.assertIs(is_growth(ONE, 30, ("a",)), True)
        self.assertIs(is_growth(ONE, 1, ("b",)), False)
        self.assertIs(is_growth(PAIR, 2, GROWTH), False)
        self.assertIs(is_growth(grown(2, GROWTH), 1, GROWTH), False)

    def test_no_growths(self):
        many = ("pinch", "b", (("a", "a"),) * 30)
        for half, value in ((2, ("a", ("pinch", "a", PINCH[2]))), (2, ("a", ("pinch", "b", (("a", "a"),)))), (2, ("a", ("tie", "a", "a"))),
                            (2, ("a", ("pinch", "b", (("a", "a"),) * 3))), (2, ("a", ("tie", "a", "b"), PINCH)), (2, (PINCH,)),
                            (2, ("a", PINCH, ("pinch", "c", (("b", "a"), ("a", "b"))))), (2, ("a", PINCH, PINCH)), (2, ("A", PINCH)),
                            (1, ("a", ("pinch", "b", (("a", "a"),)), ("pinch", "c", (("a", "b"),)), ("pinch", "d", (("a", "b"),)),
                                 ("pinch", "e", (("a", "b"),)))), (30, ("a", many, ("tie", "a", "b"))),
                            (30, ("a", many, ("pinch", "c", (("a", "b"),) * 30))), (2, [*GROWTH]), (2, ()), (2, "a"),
                            (2, ("a", [*PINCH])), (2, ("a", PINCH, ("tie", "b"))), (2, ("a", PINCH, ("tie", "a", "b", "b"))),
                            (2, ("a", PINCH, ("Tie", "a", "b"))), (2, ("a", ("pinch", "B", PINCH[2]))), (2, ("a", None)), (2, ("a", "b")),
                            (2, ("a", ("pinch", "b", [*PINCH[2]]))), (2, ("a", (True, "a", "b"))), (2, ("a", PINCH, ("tie", ["a"], "b")))):
            self.refused(InvalidGrowth, grown, half, value)
            self.assertIs(is_growth(PAIR, half, value), False)
            self.assertIs(is_growth_paper(PAIR, half, ("growth", value)), False)
        for value in (*STRANGE, 5, {}, ("a", "b", "c")):
            self.refused(InvalidGrowth, grown, 1, value)
            self.assertIs(is_growth(ONE, 1, value), False)

    def test_limits(self):
        ring = ("a", ("pinch", "b", (("a", "a"),)), *[("pinch", place, (("a", "b"),)) for place in "c"],
                *[("pinch", place, (("a", "c"),)) for place in "d"])
        self.alike(grown(1, ring).lines, ("a b c d", "a b 1", "a d 1", "b c 1", "c d 1"))
        nine = ("a", *[("pinch", place, (("a", "a"),)) for place in LETTERS[1:]])
        self.alike(len(grown(1, nine)), 9)
        self.refused(InvalidGrowth, grown, 1, (*nine, ("pinch", "j", (("a", "a"),))))
        sixty = (*nine, *[("tie", "b", "c")] * 44)
        self.alike(grown(1, sixty).size, 60)
        self.refused(InvalidGrowth, grown, 1, (*sixty, ("tie", "a", "b")))
        full = (*nine[:-1], *[("tie", "b", "c")] * 45, nine[-1])
        self.refused(InvalidGrowth, grown, 1, full)
        self.alike(grown(1, (*full[:-1], ("pinch", "i", (("b", "c"),)))).size, 60)

    def test_no_numbers(self):
        for value in NO_HALVES:
            for call, given in ((grown, (value, None)), (is_growth, (FULL, value, None)), (thinned, (LOOSE, value)), (is_thin, (LOOSE, value)),
                                (growth_of, (LOOSE, value)), (growth_paper, (LOOSE, value)), (is_growth_paper, (FULL, value, None))):
                self.alike(self.refused(InvalidNumber, call, *given).number, value)

    def test_no_nets(self):
        for value in NO_NETS:
            for call, rest in ((pinched, (None, None)), (is_growth, (None, None)), (holds_all, (None,)), (weak_lot, (None,)),
                               (thinned, (None,)), (is_thin, (None,)), (growth_of, (None,)), (growth_paper, (None,)),
                               (is_growth_paper, (None, None))):
                self.refused(InvalidNet, call, value, *rest)


class Folds(Case):

    def test_holds_all_and_weak_lot(self):
        self.alike((holds_all(FULL, 3), weak_lot(FULL, 3), holds_all(ONE, 60), weak_lot(ONE, 60), weak_lot(LOOSE, 0)),
                   (True, None, True, None, None))
        for net in (*SMALL[:60], *FOLDED[:20], CROWD):
            least = min(looks.numbers(net).values(), default=60)
            for asked in (0, 1, 2, 3, 4, 5, least, min(least + 1, 60), 60):
                self.assertIs(holds_all(net, asked), least >= asked)
                lot = weak_lot(net, asked)
                if least >= asked:
                    self.assertIsNone(lot)
                else:
                    self.assertIn(lot, looks.proper_lots(net.places))
                    self.assertLess(looks.cut(net, lot), asked)

    def test_no_least_numbers(self):
        for value in (*NO_NUMBERS, 61, 10 ** 60 - 1):
            self.alike(self.refused(InvalidNumber, holds_all, FULL, value).number, value)
            self.alike(self.refused(InvalidNumber, weak_lot, ONE, value).number, value)

    def test_thinned(self):
        self.alike((thinned(PAIR, 1).lines, thinned(ONE, 5).lines, thinned(SIXTY, 7).size), (("a b", "a b 2"), ("a",), 14))
        self.alike(thinned(FULL, 1).lines, ("a b c d", "a c 1", "a d 1", "b c 1", "b d 1"))
        for net in (*SMALL[:60], *FOLDED):
            for half in (1, 2, 3):
                told = [pair for pair, many in looks.numbers(net).items() if many < 2 * half]
                if told:
                    self.alike(self.refused(NoWay, thinned, net, half).ends, told[0])
                    self.alike(self.refused(NoWay, growth_of, net, half).ends, told[0])
                    self.assertIs(is_thin(net, half), False)
                else:
                    self.alike(thinned(net, half).ties, self.thinned_by_look(net, half).ties)

    def thinned_by_look(self, net, half):
        """The net that is left when one tie behind the other is tried."""
        for pair in net.pairs:
            while net.tied(*pair) and min(looks.numbers(net.untied(*pair)).values()) >= 2 * half:
                net = net.untied(*pair)
        return net

    def test_is_thin(self):
        self.alike((is_thin(RING, 1), is_thin(ONE, 3), is_thin(PAIR, 2), is_thin(PAIR, 1), is_thin(PAIR, 3), is_thin(LOOSE, 1)),
                   (True, True, True, False, False, False))
        for net in (*SMALL[:60], *FOLDED[:20]):
            for half in (1, 2):
                thin = holds_all(net, 2 * half) and not any(holds_all(net.untied(*pair), 2 * half) for pair in net.ties)
                self.assertIs(is_thin(net, half), thin)
                if holds_all(net, 2 * half):
                    left = thinned(net, half)
                    self.assertIs(is_thin(left, half), True)
                    if len(net) > 1:
                        self.assertIn(2 * half, left.degrees.values())


class Found(Case):

    def test_growths_of_nets(self):
        seen = set()
        for net in (*ALL, *FOLDED):
            for half in (1, 2, 3, 30):
                least = min(looks.numbers(net).values(), default=60)
                if least >= 2 * half:
                    growth = growth_of(net, half)
                    seen.add(half)
                    self.assertTrue(grown_by_look(half, growth) == net)
                    self.assertTrue(grown(half, growth) == net)
                    self.assertIs(is_growth(net, half, growth), True)
                    self.right(net, half, growth_paper(net, half), "growth")
                else:
                    self.refused(NoWay, growth_of, net, half)
                    self.right(net, half, growth_paper(net, half), "lot")
        self.assertEqual(seen, {1, 2, 3, 30})

    def right(self, net, half, paper, word):
        self.alike(paper[0], word)
        self.assertTrue(self.right_paper(net, half, paper))
        self.assertIs(is_growth_paper(net, half, paper), True)

    def right_paper(self, net, half, value):
        if not isinstance(value, tuple) or len(value) != 2:
            return False
        if value[0] == "growth":
            last = grown_by_look(half, value[1])
            return last is not None and last == net
        return value[0] == "lot" and value[1] in looks.proper_lots(net.places) and looks.cut(net, value[1]) < 2 * half

    def test_growths_of_one_place(self):
        for half in (1, 30):
            self.alike((growth_of(ONE, half), growth_paper(ONE, half)), (("a",), ("growth", ("a",))))
        self.alike(growth_of(SIXTY, 30), ("pier", ("pinch", "dock", (("pier", "pier"),) * 30)))
        self.alike(len(growth_of(SIXTY, 1)), 60)

    def test_told_papers(self):
        self.alike((growth_paper(RING, 1)[0], growth_paper(RING, 2)[0]), ("growth", "lot"))
        self.assertIs(is_growth_paper(RING, 2, ("lot", ("a", "b"))), True)
        self.assertIs(is_growth_paper(RING, 1, ("lot", ("a", "b"))), False)
        for lot in looks.all_lots(RING.places):
            self.assertIs(is_growth_paper(RING, 2, ("lot", lot)), 0 < len(lot) < 5 and looks.cut(RING, lot) < 4)
        self.assertIs(is_growth_paper(ONE, 1, ("lot", ("a",))), False)
        self.assertIs(is_growth_paper(ONE, 1, ("lot", ())), False)
        for value in (*STRANGE, 5, (), ("growth",), ("lot",), ["lot", ("a",)], ("lot", ["a"]), ("lot", ("b", "a")), ("lot", None), ("Lot", ("a",)),
                      ("growth", ("a",)), ("lot", ("a",), ()), ("growth", None), (FULL, ("a",))):
            self.assertIs(is_growth_paper(RING, 2, value), False)

    def test_bent_growths(self):
        for half, growth in ((2, GROWTH), (1, growth_of(RING, 1)), (1, growth_of(FULL, 1)), (3, growth_of(SIXTY, 3)[:4])):
            net = grown(half, growth)
            for bent in looks.bends(growth):
                last = grown_by_look(half, bent)
                self.assertIs(is_growth(net, half, bent), last is not None and last == net, bent)
                if last is None:
                    self.refused(InvalidGrowth, grown, half, bent)
                else:
                    self.assertTrue(grown(half, bent) == last)

    def test_bent_papers(self):
        for net, half in ((RING, 1), (RING, 2), (HUB, 1), (HUB, 2)):
            for bent in looks.bends(growth_paper(net, half)):
                self.assertIs(is_growth_paper(net, half, bent), self.right_paper(net, half, bent), bent)

    def test_great_nets(self):
        for half in (1, 2, 3, 6):
            ring = Net(tuple(LETTERS), looks.counted([(one, other) for one, other in zip(LETTERS, LETTERS[1:] + "a")] * half))
            for net in (ring, CROWD):
                if holds_all(net, 2 * half):
                    self.assertTrue(grown_by_look(half, growth_of(net, half)) == net)


if __name__ == "__main__":
    unittest.main()
