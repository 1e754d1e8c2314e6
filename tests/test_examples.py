"""The examples of the document, and those of README.md."""

import doctest
import unittest

from keptways.base.lots import between, corners, do_cross, excesses, is_nested, lifted, lots, merged_row, weakest
from keptways.base.nets import Net
from keptways.base.words import is_integer, is_pair, is_word
from keptways.errors import NoWay, Refused
from keptways.grow.growth import Growth, growth_paper, grown, holds_all, is_growth, is_thin, pinched, weak_lot
from keptways.grow.halves import (balanced, crossed_lot, good_pairing, halved, is_balanced, keeps_halves, losing_pair, odd_places, pairings,
                                  room_of)
from keptways.grow.streets import Streets, one_way, streets_along, streets_paper
from keptways.more.rows import ends_paper, fewest_ends, is_lots_bound, lack, lacking_lots, least_ends
from keptways.more.ties import Plan, fewest_ties, least_price, ties_paper
from keptways.more.wants import Wants, are_met, do_serve, fewest_for, first_unmet, serving_ends, short_by, wanted_cut, wants_paper
from keptways.past.pairs import is_keeping_paper, keeping_pairs, led_past, losing_lots, numbers_beside, pairs_at
from keptways.past.whole import do_keep, is_ready, left_net, partners, whole_past
from keptways.text.shell import Shell
from keptways.text.texts import is_written, read, write
from keptways.use.project import Project
from tests.samples import FULL, HUB, PAIR, RING, Case


class Examples(Case):

    def test_words(self):
        self.alike([is_word("dock"), is_word("Dock"), is_word(""), is_pair(("a", "b")), is_pair(("b", "a")), is_pair(("a", "a")),
                    is_integer(True)],
                   [True, False, False, True, False, False, False])

    def test_nets(self):
        self.alike([str(FULL), RING.near("a"), HUB.degrees, HUB.cut(("a", "z")), HUB.odd, HUB["z"], PAIR.tied("b", "a")],
                   ['4 places, 6 ties', ('b', 'e'), {'a': 4, 'b': 3, 'c': 3, 'z': 4}, 4, ('b', 'c'), {'a': 2, 'b': 1, 'c': 1}, 4])

    def test_a_net_that_is_read(self):
        path = Net.read("a b c", "a b 1", "b c 1")
        self.alike([path.lone_ties(), path.untied("a", "b").groups(), HUB.merged(("b", "c"), "m").ties, (path + path).ties,
                    (PAIR | path).lines],
                   [(('a', 'b'), ('b', 'c')), (('a',), ('b', 'c')), {('a', 'm'): 2, ('a', 'z'): 2, ('m', 'z'): 2},
                    {('a', 'b'): 2, ('b', 'c'): 2}, ('a b c', 'a b 4', 'b c 1')])

    def test_lots(self):
        self.alike([corners(RING, ("a", "b"), ("b", "c")), do_cross(RING, ("a", "b"), ("b", "c")),
                    excesses(RING, ("a", "b"), ("b", "c")), between(HUB, ("a", "b"), ("z",))],
                   [(('b',), ('a',), ('c',), ('d', 'e')), True, (0, 0), 3])
        self.alike([weakest(HUB), len([one for one in lots(FULL)]), merged_row(RING, (("a", "b"), ("d", "e"))).lines,
                    is_nested(FULL, (("a",), ("a", "b"))), lifted(FULL, ("a", "b"), 3)],
                   [(3, (('b',), ('c',))), 14, ('a c d', 'a c 1', 'a d 1', 'c d 1'), True, True])

    def test_leading_past(self):
        self.alike([pairs_at(HUB, "z"), keeping_pairs(HUB, "z"), led_past(HUB, "z", ("a", "b")).ties],
                   [(('a', 'a'), ('a', 'b'), ('a', 'c'), ('b', 'c')), (('a', 'b'), ('a', 'c')),
                    {('a', 'b'): 2, ('a', 'c'): 1, ('a', 'z'): 1, ('b', 'c'): 1, ('c', 'z'): 1}])
        self.alike([keeping_pairs(FULL, "d"), losing_lots(FULL, "d", ("a", "b")), numbers_beside(HUB, "z")],
                   [(), (('a', 'b'),), {('a', 'b'): 3, ('a', 'c'): 3, ('b', 'c'): 3}])
        paper = ("loses", "a", "c", (("a", "c"), ("a", "b", "c"), ("a", "d", "c")), ("a", "b"))
        self.assertIs(is_keeping_paper(FULL, "d", ("a", "b"), paper), True)

    def test_whole_places(self):
        self.alike([whole_past(RING, "a"), left_net(RING, "a").ties, is_ready(HUB, "z"), partners(HUB, "z", "a"),
                    do_keep(HUB, "z", (("a", "b"), ("a", "c")))],
                   [(('b', 'e'),), {('b', 'c'): 1, ('b', 'e'): 1, ('c', 'd'): 1, ('d', 'e'): 1}, True, ('b', 'c'), True])
        self.refused(NoWay, whole_past, FULL, "a")

    def test_growth(self):
        self.alike([growth_paper(RING, 1)[0], growth_paper(RING, 2)[0], holds_all(FULL, 3), weak_lot(FULL, 3), is_thin(RING, 1)],
                   ['growth', 'lot', True, None, True])
        one = Growth(2, ("a", ("pinch", "b", (("a", "a"), ("a", "a"))), ("tie", "a", "b"), ("pinch", "c", (("a", "b"), ("a", "b")))))
        self.alike([one.net.ties, str(one), one.born, is_growth(one.net, 2, ("a", *one.steps)),
                    pinched(PAIR, "c", (("a", "b"), ("b", "b"))).ties],
                   [{('a', 'b'): 3, ('a', 'c'): 2, ('b', 'c'): 2}, '3 steps, 2 pinches', ('a', 'b', 'c'), True,
                    {('a', 'b'): 3, ('a', 'c'): 1, ('b', 'c'): 3}])

    def test_streets(self):
        growth = ("a", ("pinch", "b", (("a", "a"), ("a", "a"))), ("tie", "a", "b"), ("pinch", "c", (("a", "b"), ("a", "b"))))
        net, arrows = grown(2, growth), streets_along(2, growth)
        self.alike([arrows, one_way(net, arrows, "a", "b"), Streets(net, arrows).least, Streets(net, arrows).spread(),
                    str(Streets(net, arrows).turned_at("a", "b"))],
                   [{('a', 'b'): 1, ('a', 'c'): 2, ('b', 'a'): 2, ('c', 'b'): 2}, 3, 2, {'a': 1, 'b': -1, 'c': 0},
                    '7 streets, 2 from each to each'])
        self.alike([streets_paper(RING, 1)[0], streets_paper(RING, 2)[0], Streets(PAIR, {("a", "b"): 4}).rounds()],
                   ['streets', 'lot', (('a',), ('b',))])

    def test_halves(self):
        self.alike([odd_places(FULL), good_pairing(FULL), room_of(FULL, ("a", "b")), crossed_lot(FULL, (("a", "b"), ("c", "d"))),
                    len([one for one in pairings(FULL)])],
                   [('a', 'b', 'c', 'd'), (('a', 'b'), ('c', 'd')), 2, None, 3])
        self.alike([keeps_halves(FULL, halved(FULL)), odd_places(HUB), balanced(PAIR, ()), losing_pair(PAIR, {("a", "b"): 4}),
                    is_balanced(PAIR, {("a", "b"): 2, ("b", "a"): 2}, ())],
                   [True, ('b', 'c'), ({('a', 'b'): 2, ('b', 'a'): 2}, ()), ('b', 'a'), True])

    def test_ends(self):
        path = Net(("a", "b", "c"), {("a", "b"): 1, ("b", "c"): 1})
        self.alike([lack(path, 2, ("a",)), lack(path, 2, ("b",)), fewest_ends(path, 2), is_lots_bound(path, 2, (2, (("a",), ("c",)))),
                    least_ends(path, 3, ("c", "b", "a"))],
                   [1, 0, 2, True, {'a': 2, 'b': 1, 'c': 2}])
        self.alike([ends_paper(path, 2, {"a": 1, "b": 0, "c": 1}), ends_paper(path, 2, {"a": 1, "b": 1, "c": 1}),
                    lacking_lots(path, 2, {"a": 1, "b": 1, "c": 0})],
                   [('met', (('a', 'c'),)), ('odd',), (('c',),)])

    def test_new_ties(self):
        three = Net(("a", "b", "c"))
        square = Net(("a", "b", "c", "d"), {("a", "b"): 1, ("a", "d"): 1, ("b", "c"): 1, ("c", "d"): 1})
        self.alike([fewest_ties(three, 2), fewest_ties(RING, 3), ties_paper(three, 2), least_price(three, 3, {"a": 1, "b": 1, "c": 10})],
                   [3, 3, ((('a', 'b'), ('a', 'c'), ('b', 'c')), (('a',), ('b',), ('c',))), 37])
        plan = Plan(square, 3)
        self.alike([plan.left(), plan.useful(), plan.make("a", "c"), plan.make("d", "b"), plan.made, str(plan)],
                   [2, (('a', 'c'), ('b', 'd')), 1, 0, (('a', 'c'), ('b', 'd')), '2 made, 0 left'])

    def test_a_live_net(self):
        project = Project(HUB)
        self.alike([project.pin(("least", "a", "b", 3)), project.lead("z", ("a", "b")), project.news, project.depth,
                    project.holds(("keeps", "z", "a", "c")), project.bridges()],
                   [None, (('a', 'z', 4, 2), ('b', 'z', 3, 2), ('c', 'z', 3, 2)), (('a', 'z', 4, 2), ('b', 'z', 3, 2), ('c', 'z', 3, 2)), 1,
                    True, ()])
        self.alike([project.undo(), project.weak(), str(project)],
                   [(('a', 'z', 2, 4), ('b', 'z', 2, 3), ('c', 'z', 2, 3)),
                    (('a', 'b'), ('a', 'c'), ('b', 'c'), ('b', 'z'), ('c', 'z')), '4 places, 1 pins, 0 changes'])
        self.refused(Refused, project.untie, "a", "b")

    def test_texts_and_a_shell(self):
        self.alike([write("tree", (("a", "b", 3),)), write("growth", ("a", ("pinch", "b", (("a", "a"),)), ("tie", "a", "b"))),
                    read("streets", "a>b:2 b>a:1"), write("lot", ()), is_written("ends", "b:1 a:2")],
                   ['a-b:3', 'a b=a-a a+b', {('a', 'b'): 2, ('b', 'a'): 1}, '-', False])
        shell = Shell()
        self.alike(shell.run_all("show", "net b a c", "tie a b 2", "tie b c 1", "number c a", "near c a", "classes 2", "keeps b a-c",
                                 "fewest 2", "untie a b 3", "oops", "show"),
                   ('error InvalidOperation', 'ok', 'a-b:0:2', 'a-c:0:1 b-c:0:1', '1', 'c', 'a b; c', 'yes', '1', 'error InvalidNumber',
                    'error ParseError', 'a b c; a b 2; b c 1'))

    def test_wants(self):
        path, three = Net(("a", "b", "c"), {("a", "b"): 2, ("b", "c"): 2}), {("a", "b"): 2, ("a", "c"): 3, ("b", "c"): 2}
        self.alike([are_met(path, three), first_unmet(path, three), wanted_cut(path, three, ("b",)), short_by(path, three, ("a",)),
                    fewest_for(path, three), wants_paper(path, three)[0]],
                   [False, ('a', 'c'), 2, 1, 1, (('a', 'c'),)])
        wants = Wants(FULL, {pair: 4 if pair == ("a", "b") else 3 for pair in FULL.pairs})
        self.alike([str(wants), wants.short, ("a", "c") in wants, wants.lowered().fewest, serving_ends(FULL, wants.table, FULL.places),
                    do_serve(path, three, {"a": 1, "b": 0, "c": 1})],
                   ['6 wants, 1 new ties', (('a',), ('a', 'c', 'd'), ('b',), ('b', 'c', 'd')), True, 0, {'a': 1, 'b': 1, 'c': 0, 'd': 0},
                    True])


def load_tests(_loader, tests, _pattern):
    tests.addTests(doctest.DocFileSuite("../README.md"))
    return tests


if __name__ == "__main__":
    unittest.main()
