"""The whole program: what one module tells is judged by others, along the history of a net."""

import random
import unittest

from keptways.base.lots import is_row, lots, merged_row, weakest
from keptways.base.nets import Net
from keptways.errors import InvalidNet, InvalidOperation, NoWay, Refused, UnknownPlace
from keptways.grow.growth import Growth, growth_paper, grown, is_growth, is_growth_paper, is_thin, thinned
from keptways.grow.halves import crossing, good_pairing, halved, halving_paper, is_halving_paper, keeps_halves, room_of
from keptways.grow.streets import Streets, is_one_way_paper, is_streets_paper, one_way, one_way_paper, streets_along, streets_paper
from keptways.more.rows import ends_of, ends_paper, is_ends_paper, is_lots_bound, least_ends, lots_bound, with_new
from keptways.more.ties import Plan, fewest_ties, is_price_paper, is_ties_paper, price_of, price_paper, ties_paper, weighing, worth
from keptways.more.wants import Wants, are_met, is_wants_paper, wants_paper
from keptways.past.pairs import does_keep, is_keeping_paper, keeping_paper, pairs_at
from keptways.past.whole import is_ready, is_whole_past, left_net, whole_past
from keptways.text.shell import Shell
from keptways.text.texts import is_written, read, write
from keptways.use.project import Project
from keptways.ways.flows import Ways, is_number_paper, number, number_paper
from keptways.ways.tight import Needs, barring_lot
from keptways.ways.trees import CutTree, all_numbers, is_numbers_paper, least_number, numbers_paper
from tests.samples import CROWD, FULL, HUB, NINE, RING, Case

FOLDS = (2, 3, 5)


def drawn_change(draw, net):
    """The name of a change of a net, and what it is given; it can be one that is refused."""
    one, other = draw.sample([*net.places, "n"], 2)
    near = sorted(draw.choices(net.places, k=2))
    return draw.choice((("tie", (one, other, draw.randint(0, 3))), ("tie", (one, other, 2)), ("untie", (one, other)),
                        ("add", (draw.choice("nmk"),)),
                        ("remove", (one,)), ("lead", (one, tuple(near))), ("widen", ((tuple(near),) * 2,))))


class Whole(Case):

    def papers(self, net):
        """All papers of a net that are made at once, each held against its judge; as a tuple."""
        found = [numbers_paper(net), halving_paper(net)]
        self.assertTrue(is_numbers_paper(net, found[0]) and is_halving_paper(net, found[1]))
        for half in (1, 2):
            told = (growth_paper(net, half), streets_paper(net, half))
            self.assertTrue(is_growth_paper(net, half, told[0]) and is_streets_paper(net, half, told[1]))
            self.assertEqual(told[0][0] == "growth", told[1][0] == "streets")
            found += told
        for fold in FOLDS:
            ends = least_ends(net, fold, net.places[::-1])
            prices = {place: at * 7 % 5 for at, place in enumerate(net.places)}
            told = [lots_bound(net, fold), weighing(net, fold, prices)]
            self.assertTrue(is_lots_bound(net, fold, told[0]) and is_row(net, told[0][1]))
            self.assertTrue(worth(net, fold, prices, told[1]) <= price_of(net, prices, ends))
            if net.size + fewest_ties(net, fold) <= 60:
                told += [ends_paper(net, fold, ends), ties_paper(net, fold), price_paper(net, fold, prices)]
                self.assertTrue(is_ends_paper(net, fold, ends, told[2]) and is_ties_paper(net, fold, told[3]) and is_price_paper(net,
                                                                                                                                 fold,
                                                                                                                                 prices,
                                                                                                                                 told[4]))
            found += told
        for place in net.places:
            for pair in pairs_at(net, place)[:3]:
                paper = keeping_paper(net, place, pair)
                self.assertTrue(is_keeping_paper(net, place, pair, paper))
                self.assertEqual(paper[0] == "kept", does_keep(net, place, pair))
                self.assertEqual(paper[0] == "kept", barring_lot(net, place, *pair) is None)
                found.append(paper)
        return tuple(found)

    def texts(self, net):
        """Texts of what is told of a net, which come back equal; as a tuple."""
        tree = CutTree(net)
        values = [("lot", net.places), ("pairs", net.pairs), ("tree", tree.triples), ("ends", least_ends(net, 3, net.places)),
                  ("streets", halved(net)),
                  ("pairs", good_pairing(net))]
        if len(net) > 1:
            values += [("lot", tree.side(0)), ("ways", Ways(net, net.places[0], net.places[-1]).shown)]
        if len(net) == 1 or least_number(net) >= 2:
            values.append(("growth", growth_paper(net, 1)[1]))
        for form, value in values:
            text = write(form, value)
            self.assertTrue(is_written(form, text))
            self.alike(read(form, text), value)
        return tuple(write(form, value) for form, value in values)

    def places(self, net):
        """What is told of the places of a net, held against other modules; as a tuple."""
        found = []
        told = all_numbers(net)
        for place in net.places:
            needs = Needs(net, place)
            self.assertTrue(needs.kept_by(net))
            found.append((str(needs), is_ready(net, place)))
            try:
                steps = whole_past(net, place)
            except NoWay:
                continue
            self.assertTrue(is_whole_past(net, place, steps))
            if len(net) > 1:
                left = all_numbers(left_net(net, place))
                self.assertEqual(left, {pair: told[pair] for pair in told if place not in pair})
            found.append(write("pairs", steps))
        return tuple(found)

    def told(self, net):
        return (net.lines, str(net), self.papers(net), self.texts(net), self.places(net), tuple(all_numbers(net).items()))

    def test_along_histories(self):
        for seed in range(10):
            draw = random.Random(seed)
            project = Project(draw.choice((RING, FULL, HUB, Net(("a", "b", "c")))))
            project.pin(("fold", 0))
            told = [self.told(project.net)]
            for _ in range(12):
                name, given = drawn_change(draw, project.net)
                before = all_numbers(project.net)
                try:
                    news = getattr(project, name)(*given)
                except (InvalidNet, InvalidOperation, UnknownPlace, Refused, RuntimeError):
                    continue
                behind = all_numbers(project.net)
                self.alike(news,
                           tuple((*pair, before[pair], behind[pair]) for pair in before if pair in behind and before[pair] != behind[pair]))
                told.append(self.told(project.net))
            self.alike(project.depth, len(told) - 1)
            for at in range(len(told) - 1, 0, -1):
                project.undo()
                self.assertEqual(self.told(project.net), told[at - 1])
            for at in range(1, len(told)):
                project.redo()
                self.assertEqual(self.told(project.net), told[at])

    def test_great_nets(self):
        for net in (NINE, CROWD):
            self.assertEqual(self.told(net), self.told(net))

    def test_growths_come_back(self):
        for net in (FULL, RING, HUB, CROWD):
            growth = growth_paper(net, 1)[1]
            again = read("growth", write("growth", growth))
            self.assertTrue(grown(1, again) == net and is_growth(net, 1, again))
            streets = Streets(net, streets_along(1, again))
            self.assertGreaterEqual(streets.least, 1)
            thin = thinned(net, 1)
            self.assertTrue(is_thin(thin, 1))
            self.assertTrue(Growth(1, growth_paper(thin, 1)[1]).net == thin)

    def test_merged_rows_keep_cuts(self):
        for net in (HUB, CROWD):
            _, row = lots_bound(net, 9)
            merged = merged_row(net, row)
            for lot in list(lots(merged)):
                whole = tuple(sorted(place for head in lot for place in next((told for told in row if told[0] == head), (head,))))
                self.alike(merged.cut(lot), net.cut(whole))
            self.alike(weakest(net)[0], least_number(net))

    def test_wants_plans_and_streets(self):
        for net in (RING, FULL, HUB):
            wants = Wants(net, {pair: 2 + at % 3 for at, pair in enumerate(net.pairs)})
            new_ties, _ = wants_paper(net, wants.table)
            self.assertTrue(is_wants_paper(net, wants.table, wants_paper(net, wants.table)))
            made = with_new(net, new_ties)
            self.assertTrue(are_met(made, wants.table) and len(new_ties) == wants.fewest)
            self.alike(wants.for_net(made).fewest, 0)
            self.alike(sum(ends_of(net, new_ties).values()), 2 * len(new_ties))
            plan = Plan(net, 4)
            while plan.left():
                plan.make(*plan.useful()[-1])
            self.assertGreaterEqual(least_number(plan.net), 4)
            self.assertEqual(write("pairs", tuple(sorted(plan.made))), write("pairs", tuple(sorted(plan))))

    def test_papers_of_ways(self):
        for net in (HUB, CROWD):
            streets = halved(net)
            self.assertTrue(keeps_halves(net, streets))
            for one, other in net.pairs[:6]:
                ways, lot = number_paper(net, one, other)
                self.assertTrue(is_number_paper(net, one, other, (ways, lot)))
                self.alike(len(ways), number(net, one, other))
                self.assertTrue(is_one_way_paper(net, streets, other, one, one_way_paper(net, streets, other, one)))
                self.assertGreaterEqual(one_way(net, streets, other, one), len(ways) // 2)
                self.assertLessEqual(crossing(good_pairing(net), lot), room_of(net, lot))

    def test_a_shell_tells_what_the_modules_tell(self):
        for net in (RING, FULL, HUB, CROWD):
            shell = Shell()
            shell.run_all("net " + " ".join(reversed(net.places)), *[f"tie {other} {one} {many}" for (one, other),
                                                                     many in net.ties.items()])
            self.assertTrue(shell.net == net)
            self.alike(shell.run_all("show", "tree", "halves", "growth 1", "streets 1", "new 2"),
                       ("; ".join(net.lines), write("tree", CutTree(net).triples), write("streets", halved(net)),
                        write("growth", growth_paper(net, 1)[1]),
                        write("streets", streets_paper(net, 1)[1]), write("pairs", ties_paper(net, 2)[0])))


if __name__ == "__main__":
    unittest.main()
