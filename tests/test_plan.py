"""Class Plan."""

import operator
import random
import unittest

from keptways.base.nets import Net
from keptways.errors import InvalidNet, InvalidNumber, InvalidOperation, NothingToUndo, UnknownPlace
from keptways.more.rows import with_new
from keptways.more.ties import Plan, fewest_ties, ties_paper
from tests.samples import ALL, FULL, HUB, LOOSE, NINE, NO_NETS, NO_PLACES, ONE, PAIR, RING, SIXTY, SMALL, STRANGE, Case
from tests.test_rows import HALF_FULL, NO_FOLDS, PATH

SQUARE = Net(("a", "b", "c", "d"), {("a", "b"): 1, ("a", "d"): 1, ("b", "c"): 1, ("c", "d"): 1})


def made():
    plan = Plan(SQUARE, 3)
    plan.make("d", "b")
    plan.make("a", "b")
    return plan


def state(plan):
    return (plan.net.lines, plan.fold, plan.made, plan.left(), plan.useful(), len(plan), list(plan), str(plan))


class Told(Case):

    def test_properties(self):
        plan = made()
        self.alike((plan.net.lines, plan.fold, plan.made), (("a b c d", "a b 2", "a d 1", "b c 1", "b d 1", "c d 1"), 3,
                                                            (("b", "d"), ("a", "b"))))
        plan = Plan(SQUARE, 9)
        self.alike((plan.net.lines, plan.fold, plan.made), (SQUARE.lines, 9, ()))

    def test_left(self):
        self.alike((Plan(SQUARE, 3).left(), made().left(), Plan(ONE, 9).left(), Plan(SIXTY, 9).left(), Plan(NINE, 9).left()),
                   (2, 1, 0, 0, 41))
        for net in SMALL[:40]:
            for fold in (2, 5, 9):
                self.alike(Plan(net, fold).left(), fewest_ties(net, fold))

    def test_useful(self):
        self.alike((Plan(SQUARE, 3).useful(), made().useful(), Plan(ONE, 2).useful(), Plan(SIXTY, 9).useful(), Plan(LOOSE, 2).useful()),
                   ((("a", "c"), ("b", "d")), (("a", "c"), ("b", "c"), ("c", "d")), (), (), LOOSE.pairs))
        for net in SMALL[:40]:
            for fold in (2, 4, 9):
                self.alike(Plan(net, fold).useful(),
                           tuple(pair for pair in net.pairs if fewest_ties(net.joined(*pair), fold) < fewest_ties(net, fold)))
        full = Plan(HALF_FULL, 2)
        self.alike((full.left(), full.useful()), (2, ()))
        self.alike(Plan(HALF_FULL.untied("a", "b"), 2).useful(), tuple((place, "i") for place in "abcdefgh"))

    def test_text_and_len(self):
        self.alike((str(made()), len(made()), list(made()), tuple(made())), ("2 made, 1 left", 2, [("b", "d"), ("a", "b")], made().made))
        self.alike((str(Plan(ONE, 2)), len(Plan(ONE, 2)), list(Plan(ONE, 2))), ("0 made, 0 left", 0, []))

    def test_in(self):
        for pair in SQUARE.pairs:
            self.assertIs(pair in made(), pair in (("a", "b"), ("b", "d")))
        for value in (*STRANGE, 1, (), "ab", ("d", "b"), ("b", "a"), ["a", "b"], (("a", "b"),), SQUARE, made()):
            self.assertIs(value in made(), False)

    def test_equal(self):
        plan = made()
        self.assertIs(plan == made(), True)
        self.assertIs(plan != made(), False)
        turned = Plan(SQUARE, 3)
        turned.make("a", "b")
        turned.make("b", "d")
        shifted = Plan(SQUARE.joined("b", "d"), 3)
        shifted.make("a", "b")
        other = Plan(SQUARE, 4)
        other.make("b", "d")
        other.make("a", "b")
        fresh = Plan(plan.net, 3)
        beside = Plan(SQUARE.joined("a", "c"), 3)
        beside.make("b", "d")
        beside.make("a", "b")
        for value in (*STRANGE, 2, (), plan.made, plan.net, turned, shifted, other, fresh, beside, str(plan), (plan,), Plan(SQUARE, 3)):
            self.assertIs(plan == value, False)
            self.assertIs(value == plan, False)
            self.assertIs(plan != value, True)
        plan.take_back()
        self.assertIs(plan == made(), False)
        plan.make("b", "a")
        self.assertIs(plan == made(), True)

    def test_refused(self):
        for value in NO_NETS:
            self.refused(InvalidNet, Plan, value, None)
        for value in NO_FOLDS:
            self.alike(self.refused(InvalidNumber, Plan, SQUARE, value).number, value)

    def test_no_state_is_handed_out(self):
        plan = made()
        for name in ("net", "fold", "made"):
            with self.assertRaises(AttributeError):
                setattr(plan, name, 1)
        with self.assertRaises(TypeError):
            operator.getitem(plan, 0)
        plan.net.ties["a", "b"] = 9
        self.assertTrue(plan == made())
        net = plan.net
        plan.take_back()
        self.alike(net.tied("a", "b"), 2)


class Made(Case):

    def test_make(self):
        plan = Plan(SQUARE, 3)
        self.alike((plan.make("a", "c"), plan.make("d", "b"), plan.made, str(plan)), (1, 0, (("a", "c"), ("b", "d")), "2 made, 0 left"))
        self.alike((plan.make("a", "b"), plan.made, plan.left()), (0, (("a", "c"), ("b", "d"), ("a", "b")), 0))

    def test_take_back(self):
        plan = made()
        self.alike((plan.take_back(), plan.made, plan.net.lines), (1, (("b", "d"),), (*SQUARE.lines[:4], "b d 1", "c d 1")))
        self.alike((plan.take_back(), plan.made, plan.net.lines), (2, (), SQUARE.lines))
        self.alike(self.refused(NothingToUndo, plan.take_back).amount, 1)
        self.alike(self.refused(NothingToUndo, Plan(ONE, 2).take_back).amount, 1)
        self.assertTrue(plan == Plan(SQUARE, 3))

    def test_refused(self):
        plan = made()
        before = state(plan)
        for value in NO_PLACES:
            self.alike(self.refused(UnknownPlace, plan.make, value, "z").asked, value)
            self.alike(self.refused(UnknownPlace, plan.make, "a", value).asked, value)
        self.refused(InvalidOperation, plan.make, "a", "a")
        self.alike(state(plan), before)
        full = Plan(SIXTY, 2)
        before = state(full)
        self.refused(InvalidNet, full.make, "pier", "dock")
        self.refused(InvalidOperation, full.make, "pier", "pier")
        self.refused(UnknownPlace, full.make, "pier", "ship")
        self.refused(NothingToUndo, full.take_back)
        self.alike(state(full), before)
        almost = Plan(SIXTY.untied("dock", "pier"), 2)
        self.alike(almost.make("pier", "dock"), 0)
        self.refused(InvalidNet, almost.make, "pier", "dock")
        self.alike(almost.take_back(), 0)

    def test_along_drawn_ways(self):
        draw = random.Random(3)
        for net in (FULL, HUB, RING, PAIR, PATH, *SMALL[:30], NINE):
            if len(net) == 1:
                continue
            plan = Plan(net, draw.randint(2, 9))
            done = []
            for _ in range(12):
                if done and draw.random() < 0.3:
                    done.pop()
                    told = plan.take_back()
                else:
                    one, other = draw.sample(net.places, 2)
                    done.append(tuple(sorted((one, other))))
                    told = plan.make(one, other)
                self.assertEqual(plan.made, tuple(done))
                self.assertTrue(plan.net == with_new(net, tuple(sorted(done))))
                self.alike(told, fewest_ties(plan.net, plan.fold))
                self.alike((plan.left(), str(plan)), (told, f"{len(done)} made, {told} left"))

    def test_useful_ties_lead_to_the_end(self):
        for net in (*ALL[:30], NINE):
            plan = Plan(net, 3)
            least = plan.left()
            if net.size + least > 60:
                continue
            for _ in range(least):
                before = plan.left()
                pair = plan.useful()[0]
                self.alike(plan.make(*pair), before - 1)
            self.alike((plan.left(), plan.useful(), len(plan)), (0, (), least))
            for pair in ties_paper(net, 3)[0]:
                self.assertTrue(pair[0] < pair[1])


if __name__ == "__main__":
    unittest.main()
