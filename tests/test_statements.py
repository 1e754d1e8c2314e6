"""The main statements of the document, held against many nets, and nets against what it denies."""

import unittest

from keptways.base.nets import Net
from keptways.grow.growth import growth_paper, holds_all, pinched, weak_lot
from keptways.grow.halves import balanced, is_good_pairing, losing_pair, pairings
from keptways.grow.streets import streets_paper
from keptways.more.rows import does_suffice, ends_paper, fewest_ends, least_ends, lots_bound, with_new
from keptways.more.ties import fewest_ties, ties_paper
from keptways.past.pairs import does_keep, keeping_pairs, led_past, numbers_beside, pairs_at
from keptways.past.whole import do_keep, gone_on, is_ready, is_whole_past, steps_net, whole_past
from keptways.ways.flows import number
from keptways.ways.trees import all_numbers, classes, cut_tree, is_cut_tree, least_number
from tests import looks, looks_along, looks_new
from tests.samples import FULL, LOOSE, PAIR, RING, SMALL, Case, single_ties


class Stated(Case):

    def test_cut_trees_and_numbers(self):
        for net in SMALL[:40]:
            tree = cut_tree(net)
            self.assertIs(is_cut_tree(net, tree), True)
            told = all_numbers(net)
            self.alike(told, looks.numbers(net))
            for k in (1, 2, 3):
                self.alike(len(classes(net, k)) - 1, len([row for row in tree if row[2] < k]))

    def test_a_ready_place_can_be_led_past(self):
        for net in SMALL[:40]:
            for place in net.places:
                if not is_ready(net, place) or net.degree(place) == 0 or net.degree(place) == 3:
                    continue
                pairs = keeping_pairs(net, place)
                self.assertEqual({tip for pair in pairs for tip in pair}, {*net.near(place)})
                for pair in pairs:
                    behind = steps_net(net, place, gone_on(net, place, (pair,)))
                    self.alike(behind.degree(place), 3 if net.degree(place) % 2 else 0)
                    self.alike(numbers_beside(behind, place), numbers_beside(net, place))

    def test_growths_streets_and_weak_lots(self):
        for net in SMALL:
            for half in (1, 2):
                strong = min(looks.numbers(net).values(), default=60) >= 2 * half
                self.alike((growth_paper(net, half)[0] == "growth", streets_paper(net, half)[0] == "streets", holds_all(net, 2 * half)),
                           (strong,) * 3)
                self.assertEqual(weak_lot(net, 2 * half) is None, strong)

    def test_each_good_pairing_leads_to_halves(self):
        for net in SMALL:
            good = [pairing for pairing in list(pairings(net)) if is_good_pairing(net, pairing)]
            self.assertTrue(good)
            for pairing in good:
                self.assertIsNone(losing_pair(net, balanced(net, pairing)[0]))

    def test_ends_can_be_met_if_they_suffice(self):
        for net in [net for net in SMALL if len(net) <= 3]:
            for fold in (2, 3):
                for ends in looks_new.all_ends(net, 3):
                    met = ends_paper(net, fold, ends)[0] == "met"
                    self.assertEqual(met, does_suffice(net, fold, ends) and sum(ends.values()) % 2 == 0)
        for net in SMALL[:40]:
            for fold in (2, 4):
                least = sum(least_ends(net, fold, net.places[::-1]).values())
                self.alike((least, lots_bound(net, fold)[0], fewest_ties(net, fold)), (fewest_ends(net, fold),) * 2 + ((least + 1) // 2,))
                new_ties, _ = ties_paper(net, fold)
                self.assertGreaterEqual(least_number(with_new(net, new_ties)) if len(net) > 1 else fold, fold)

    def test_two_ties_are_led_past(self):
        met = 0
        for net in SMALL:
            for place in net.places:
                if net.degree(place) == 2:
                    met += 1
                    pair = pairs_at(net, place)[0]
                    self.assertIs(does_keep(net, place, pair), True)
                    self.alike(numbers_beside(led_past(net, place, pair), place), numbers_beside(net, place))
        self.assertGreater(met, 20)

    def test_one_tie_more(self):
        for net in SMALL[:30]:
            told = all_numbers(net)
            for pair in net.pairs:
                more = all_numbers(net.joined(*pair))
                self.assertTrue(all(told[key] <= more[key] <= told[key] + 1 for key in told))

    def test_numbers_and_ties_of_places(self):
        for net in SMALL:
            told = all_numbers(net)
            for one, other in told:
                self.assertLessEqual(told[one, other], min(net.degree(one), net.degree(other)))
                for third in net.places:
                    if other < third:
                        three = sorted((told[one, other], told[one, third], told[other, third]))
                        self.assertEqual(three[0], three[1])

    def test_each_pair_of_a_whole_leading_keeps_at_first(self):
        met = 0
        for net in SMALL[:60]:
            for place in net.places:
                if net.degree(place) % 2 == 0 and is_ready(net, place):
                    for pair in whole_past(net, place):
                        met += 1
                        self.assertIs(does_keep(net, place, pair), True)
        self.assertGreater(met, 50)

    def test_a_pinch_keeps_the_fold(self):
        for net in SMALL:
            half = min(looks.numbers(net).values(), default=6) // 2
            ties = single_ties(net) or [("a", "a")] * half
            if len(ties) >= half:
                self.assertIs(holds_all(pinched(net, "z", tuple(ties[:half])), 2 * half), True)


class Denied(Case):

    def test_three_ties_without_a_pair_that_keeps(self):
        self.alike((FULL.degree("d"), keeping_pairs(FULL, "d")), (3, ()))

    def test_two_pairs_that_keep_do_not_keep_together(self):
        found = []
        for net in SMALL:
            for place in net.places:
                pairs = keeping_pairs(net, place)
                for one in pairs:
                    for other in pairs:
                        if other in pairs_at(led_past(net, place, one), place) and not do_keep(net, place, (one, other)):
                            found.append((net, place, one, other))
        self.assertTrue(found)
        net, place, one, other = found[0]
        self.assertTrue(looks.does_keep(net, place, one) and looks.does_keep(net, place, other))

    def test_a_place_with_a_tie_that_alone_joins_is_led_past(self):
        path = Net(("a", "b", "z"), {("a", "z"): 1, ("b", "z"): 1})
        self.alike((number(path, "a", "z"), is_ready(path, "z"), whole_past(path, "z")), (1, False, (("a", "b"),)))
        self.assertIs(is_whole_past(path, "z", (("a", "b"),)), True)

    def test_the_fewest_new_ties_are_not_what_the_places_lack(self):
        net = Net(("a", "b", "c", "d"), {("a", "b"): 3, ("c", "d"): 3})
        self.alike((max(looks_new.lack(net, 2, (place,)) for place in net.places), fewest_ties(net, 2)), (0, 2))
        self.alike(fewest_ties(LOOSE, 3), 5)

    def test_streets_with_one_more_at_most_can_lose(self):
        met = 0
        for seed in range(40):
            for net in (RING, PAIR, *SMALL[:20]):
                streets = looks_along.drawn_streets(net, seed)
                steps = looks_along.single_streets(streets)
                if all(abs(sum((one == place) - (other == place) for one, other in steps)) <= 1 for place in net.places):
                    met += losing_pair(net, streets) is not None
        self.assertGreater(met, 0)

    def test_many_ties_at_all_places_do_not_make_a_fold(self):
        net = Net(("a", "b", "c", "d"), {("a", "b"): 5, ("b", "c"): 1, ("c", "d"): 5})
        self.alike((min(net.degrees.values()), least_number(net)), (5, 1))


if __name__ == "__main__":
    unittest.main()
