"""Nets, values and checks that the tests share."""

import random
import unittest

from keptways.base.nets import Net
from keptways.errors import InvalidWord, UnknownPlace
from keptways.grow.growth import Growth
from keptways.grow.streets import Streets
from keptways.more.ties import Plan
from keptways.more.wants import Wants
from keptways.text.shell import Shell
from keptways.use.project import Project
from keptways.ways.flows import Ways
from keptways.ways.tight import Needs
from keptways.ways.trees import CutTree

FULL = Net(("a", "b", "c", "d"), {("a", "b"): 1, ("a", "c"): 1, ("a", "d"): 1, ("b", "c"): 1, ("b", "d"): 1, ("c", "d"): 1})
RING = Net(("a", "b", "c", "d", "e"), {("a", "b"): 1, ("a", "e"): 1, ("b", "c"): 1, ("c", "d"): 1, ("d", "e"): 1})
PAIR = Net(("a", "b"), {("a", "b"): 4})
HUB = Net(("a", "b", "c", "z"), {("a", "b"): 1, ("a", "c"): 1, ("b", "c"): 1, ("a", "z"): 2, ("b", "z"): 1, ("c", "z"): 1})

LETTERS = "abcdefghi"
ONE = Net(("a",))
LOOSE = Net(("a", "b", "c"))
NINE = Net(tuple(LETTERS))
SIXTY = Net(("dock", "pier"), {("dock", "pier"): 60})
CROWD = Net(tuple(LETTERS), {pair: 2 if at < 24 else 1 for at, pair in enumerate(NINE.pairs)})
NAMED = (FULL, RING, PAIR, HUB, ONE, LOOSE, NINE, SIXTY, CROWD)

DEEP = [{"a": ([{"a": ([{"a": (1,)}],)}],)}]
LONG_TEXT = "a b " * 2250
# Objects of all classes but Net, which can stand where none of them is taken.
OBJECTS = (CutTree(FULL), Growth(1, ("a",)), Needs(FULL, "a"), Plan(PAIR, 2), Project(PAIR), Shell(), Streets(ONE, {}),
           Wants(SIXTY, {("dock", "pier"): 2}), Ways(FULL, "a", "b"))

# A value of each kind that [0.4] names, none of which is a place, a number,
# a lot, a net or a dict that anything takes.
STRANGE = (None, True, False, -1, -(10 ** 60), 10 ** 60, 10 ** 99, "", "A", "a ", "a\n", "wordwords", "1", LONG_TEXT,
           ("A",), ("a", 1), (("a",),), (None,), ["a"], ["a", "b"], [], {"a": "B"}, {"A": 1}, {1: 2, "a": 3, (1, (2,)): None},
           DEEP, InvalidWord("a"), UnknownPlace("a"), *OBJECTS)
NO_PLACES = (*STRANGE, 0, 1, (), ("a",), {}, "q", PAIR)
NO_WORDS = (*STRANGE, 0, 1, (), ("a",), {}, PAIR)
NO_NUMBERS = (*STRANGE, (), ("a",), {}, "q", PAIR)
NO_NETS = (*STRANGE, 0, 1, (), ("a",), {}, "a", "a b 1", FULL.places, FULL.ties, FULL.lines, [FULL], (FULL,), {"a": FULL})
NO_LOTS = (*STRANGE, ("b", "a"), ("a", "a"), ("a", "q"), ("q",), ["a"], [], {}, {"a": 1}, "a", "ab", 1, 0, FULL, ("a", ["b"]))


def drawn_nets(many):
    """Nets of one to nine places, always the same ones."""
    draw = random.Random(5)
    nets = []
    while len(nets) < many:
        places = LETTERS[:draw.randint(1, 9)]
        pairs = [(one, other) for one in places for other in places if one < other]
        ties = {pair: draw.randint(1, 3) for pair in pairs if draw.random() < draw.choice((0.2, 0.4, 0.6))}
        if sum(ties.values()) <= 60:
            nets.append(Net(tuple(places), ties))
    return nets


def waisted_nets(many):
    """Nets of two strong halves with few ties between them, so that the least lots are no single places."""
    draw = random.Random(8)
    nets = []
    while len(nets) < many:
        places = LETTERS[:draw.randint(4, 9)]
        half = places[::2] if draw.random() < 0.5 else places[:len(places) // 2]
        pairs = [(one, other) for one in places for other in places if one < other]
        ties = {pair: draw.randint(1, 4) for pair in pairs if (pair[0] in half) == (pair[1] in half)}
        for _ in range(draw.randint(1, 4)):
            pair = draw.choice([pair for pair in pairs if (pair[0] in half) != (pair[1] in half)])
            ties[pair] = ties.get(pair, 0) + 1
        if sum(ties.values()) <= 60:
            nets.append(Net(tuple(places), ties))
    return nets


WAISTED = waisted_nets(40)
ALL = (*NAMED, *drawn_nets(60), *WAISTED)
SMALL = [net for net in (*WAISTED, *drawn_nets(150)) if len(net) <= 6]


def single_ties(net):
    """A list with each tie of a net by itself."""
    return [pair for pair, many in net.ties.items() for _ in range(many)]


def groups_by_walks(places, ties):
    """The groups, found by walks from each place."""
    found = set()
    for start in places:
        seen, ahead = {start}, [start]
        while ahead:
            place = ahead.pop()
            for one, other in ties:
                for near in (other,) if place == one else (one,) if place == other else ():
                    if near not in seen:
                        seen.add(near)
                        ahead.append(near)
        found.add(tuple(sorted(seen)))
    return tuple(sorted(found))


def state(net):
    """All that a net tells of itself, with the order in its dicts."""
    return (net.places, tuple(net.ties.items()), net.lines, tuple(net.degrees.items()),
            net.size, net.pairs, net.odd, net.even, str(net))


STATES = [state(net) for net in ALL]


class Case(unittest.TestCase):
    """Tests, behind each of which all shared nets are as they were."""

    def tearDown(self):
        self.assertEqual([state(net) for net in ALL], STATES)

    def refused(self, error, call, *given, **named):
        """The error of a call, which is just this one and none derived from it."""
        with self.assertRaises(error) as caught:
            call(*given, **named)
        self.assertIs(type(caught.exception), error)
        return caught.exception

    def alike(self, value, other):
        """That two values are equal, also in kinds and in the order of dicts."""
        self.assertEqual(value, other)
        self.assertEqual(repr(value), repr(other))
