"""Class Project."""

import operator
import random
import unittest

from keptways.base.nets import Net
from keptways.errors import (InvalidNet, InvalidNumber, InvalidOperation, InvalidWord, NothingToUndo, Refused, TooMany, UnknownPlace)
from keptways.past.pairs import led_past
from keptways.more.rows import with_new
from keptways.use.project import Project
from tests import looks, looks_new
from tests.samples import (ALL, CROWD, FULL, HUB, LOOSE, NINE, NO_NETS, NO_NUMBERS, NO_PLACES, NO_WORDS, ONE, PAIR, RING, SIXTY, SMALL,
                           STRANGE, Case)
from tests.test_rows import NO_NEW_TIES, PATH

NO_SAYINGS = (*STRANGE, 1, (), "least", ("least",), ("least", "a", "b"), ("least", "a", "b", 61), ("least", "a", "b", -1),
              ("least", "a", "b", True),
              ("least", "b", "a", 1), ("least", "a", "a", 0), ("least", "a", "B", 1), ("least", "a", "b", 1, 1), ["least", "a", "b", 1],
              ("least", ("a", "b"), 1), ("least", "a", "b", "1"), ("least", "a", "b", None), ("fold",), ("fold", 61), ("fold", -1),
              ("fold", True),
              ("fold", "1"), ("fold", 1, 1), ["fold", 1], ("ready",), ("ready", "A"), ("ready", 1), ("ready", "a", "b"), ("ready", ("a",)),
              ("keeps",), ("keeps", "a", "b"), ("keeps", "a", ("b", "c")), ("keeps", "a", "b", "C"), ("keeps", "a", "b", 1),
              ("keeps", "a", "b", "c", "d"),
              ("new",), ("new", 2), ("new", 1, 1), ("new", 10, 1), ("new", True, 1), ("new", 2, 61), ("new", 2, -1), ("new", 2, True),
              ("new", 2, 1, 1),
              ("new", "a", 1), ("Fold", 1), ("old", 1), ("old", 2, 60), ("new ", 2, 60), ("keeps", "A", "b", "c"), ("keeps", 1, "b", "c"),
              (None, 1), (FULL, 1), FULL, {"fold": 1}, ("fold", 10 ** 60), ("fold", [1]), ("ready", []))


def state(project):
    return (project.net.lines, project.pins, project.depth, project.news, str(project), len(project), list(project))


def holds(net, saying):
    """Whether a saying holds, held against a look at all lots."""
    if not all(item in net.places for item in saying[1:] if isinstance(item, str)):
        return False
    if saying[0] == "least":
        return looks.number(net, *saying[1:3]) >= saying[3]
    if saying[0] == "fold":
        return all(many >= saying[1] for many in looks.numbers(net).values())
    if saying[0] == "ready":
        return all(looks.number(net, saying[1], place) > 1 for place in net.near(saying[1]))
    if saying[0] == "keeps":
        return saying[2:] in looks.pairs_at(net, saying[1]) and looks.does_keep(net, saying[1], saying[2:])
    return (looks_new.greatest_row_sum(looks_new.lacks(net, saying[1]), net.places) + 1) // 2 <= saying[2]


def news_between(old, new):
    before, behind = looks.numbers(old), looks.numbers(new)
    return tuple((*pair, before[pair], behind[pair]) for pair in sorted(before) if pair in behind and before[pair] != behind[pair])


def drawn_sayings(net, seed, many):
    draw = random.Random(seed)
    words = [*net.places, "q"]
    found = []
    for _ in range(many):
        two = tuple(sorted(draw.sample(words, 2)))
        found.append(draw.choice((("least", *two, draw.randint(0, 4)), ("fold", draw.randint(0, 4)), ("ready", draw.choice(words)),
                                  ("keeps", draw.choice(words), *sorted(draw.choices(words, k=2))),
                                  ("new", draw.randint(2, 4), draw.randint(0, 9)))))
    return found


class Told(Case):

    def test_properties(self):
        project = Project(HUB)
        self.assertTrue(project.net == HUB)
        self.alike((project.pins, project.depth, project.news), ((), 0, ()))
        project.pin(("fold", 2))
        project.tie("a", "b", 2)
        self.alike((project.net.tied("a", "b"), project.pins, project.depth, project.news), (3, (("fold", 2),), 1,
                                                                                             news_between(HUB, project.net)))
        self.alike(project.news, (("a", "b", 3, 5), ("b", "z", 3, 4)))

    def test_refused(self):
        for value in NO_NETS:
            self.refused(InvalidNet, Project, value)

    def test_bridges_and_weak_pairs(self):
        for net, bridges, weak in ((ONE, (), ()), (LOOSE, (), LOOSE.pairs), (PATH, PATH.pairs[::2], PATH.pairs), (RING, (), RING.pairs),
                                   (PAIR, (), (("a", "b"),)),
                                   (Net(("a", "b", "c", "d"), {("a", "b"): 1, ("c", "d"): 2}), (("a", "b"),),
                                    (("a", "c"), ("a", "d"), ("b", "c"), ("b", "d")))):
            project = Project(net)
            self.alike((project.bridges(), project.weak()), (bridges, weak))
        for net in ALL[:60]:
            told = looks.numbers(net)
            self.alike(Project(net).bridges(), tuple(pair for pair in net.pairs if net.tied(*pair) == 1 and told[pair] == 1))
            self.alike(Project(net).weak(), tuple(pair for pair in told if told[pair] == min(told.values())))

    def test_text_and_len(self):
        project = Project(RING)
        self.alike((str(project), len(project), list(project)), ("5 places, 0 pins, 0 changes", 5, [*"abcde"]))
        project.pin(("fold", 2))
        project.pin(("ready", "a"))
        project.tie("a", "c")
        self.alike((str(project), len(project), list(project)), ("5 places, 2 pins, 1 changes", 5, [*"abcde"]))
        project.unpin(("fold", 2))
        project.add("dock")
        self.alike((str(project), len(project), tuple(project)), ("6 places, 1 pins, 2 changes", 6, ("a", "b", "c", "d", "dock", "e")))
        project.undo(2)
        self.alike((str(project), len(project), list(project)), ("5 places, 1 pins, 0 changes", 5, [*"abcde"]))

    def test_in(self):
        project = Project(RING)
        for saying in (("fold", 1), ("ready", "a"), ("least", "a", "b", 2)):
            self.assertIs(saying in project, False)
            project.pin(saying)
            self.assertIs(saying in project, True)
        for value in (*NO_SAYINGS, ("fold", 2), ("fold", 0), ("ready", "b"), ("fold", True), ["fold", 1], ("least", "a", "b", 1), "a",
                      project.pins, RING):
            self.assertIs(value in project, False)
        project.unpin(("fold", 1))
        self.assertIs(("fold", 1) in project, False)

    def test_equal(self):
        one, other = Project(RING), Project(RING)
        self.assertIs(one == other, True)
        one.tie("a", "b", 0)
        self.assertIs(one == other, True)
        one.pin(("fold", 1))
        self.assertIs(one == other, False)
        self.assertIs(one != other, True)
        other.pin(("fold", 1))
        self.assertIs(one != other, False)
        other.tie("a", "c")
        self.assertIs(one == other, False)
        for value in (*STRANGE, 5, (), RING, str(one), one.pins, (one,)):
            self.assertIs(one == value, False)
            self.assertIs(value == one, False)
            self.assertIs(one != value, True)

    def test_nothing_is_shared(self):
        project = Project(RING)
        for name in ("net", "pins", "depth", "news"):
            with self.assertRaises(AttributeError):
                setattr(project, name, 1)
        with self.assertRaises(TypeError):
            operator.getitem(project, "a")
        project.net.ties["a", "b"] = 9
        net = project.net
        project.tie("a", "b")
        self.alike((net.tied("a", "b"), RING.tied("a", "b"), project.net.tied("a", "b")), (1, 1, 2))


class Changed(Case):

    def changed(self, net, name, given, made):
        """Make a change by a method, and check all that it does."""
        project = Project(net)
        news = getattr(project, name)(*given)
        self.alike(project.net.lines, made.lines)
        self.alike((news, project.news, project.depth), (news_between(net, made),) * 2 + (1,))
        return news

    def test_changes(self):
        self.alike(self.changed(HUB, "lead", ("z", ("a", "b")), led_past(HUB, "z", ("a", "b"))),
                   (("a", "z", 4, 2), ("b", "z", 3, 2), ("c", "z", 3, 2)))
        for net in (*SMALL[:30], ONE, PAIR, NINE):
            for one, other in net.pairs[:4]:
                self.changed(net, "tie", (other, one), net.joined(one, other))
                self.changed(net, "tie", (one, other, 3), net.joined(one, other, 3))
                self.changed(net, "untie", (other, one, net.tied(one, other)), net.untied(one, other, net.tied(one, other)))
                if net.tied(one, other):
                    self.changed(net, "untie", (one, other), net.untied(one, other))
            if len(net) < 9:
                self.alike(self.changed(net, "add", ("zz",), net.with_place("zz")), ())
            if len(net) > 1:
                self.changed(net, "remove", (net.places[-1],), net.without_place(net.places[-1]))
            for place in net.places[:2]:
                for pair in looks.pairs_at(net, place)[:3]:
                    self.changed(net, "lead", (place, pair), looks.led_past(net, place, pair))
            for new_ties in ((), net.pairs[:3], ((net.places[0],) * 2, *net.pairs[:1])):
                self.changed(net, "widen", (new_ties,), with_new(net, new_ties))
        project = Project(RING)
        self.alike((project.tie("a", "b", many=2), project.untie("a", "b", many=1), project.net.tied("a", "b")),
                   ((("a", "b", 2, 4),), (("a", "b", 4, 3),), 2))

    def test_a_change_that_changes_nothing_counts(self):
        project = Project(RING)
        project.tie("a", "c", 2)
        self.assertNotEqual(project.news, ())
        self.alike((project.tie("a", "b", 0), project.news, project.depth, project.widen(()), project.depth), ((), (), 2, (), 3))
        project.undo(2)
        self.alike((project.depth, project.net.tied("a", "c")), (1, 2))

    def test_refused_changes(self):
        project = Project(PATH)
        project.tie("a", "c")
        project.undo()
        project.tie("b", "c")
        project.pin(("least", "a", "b", 1))
        before = state(project)
        for value in NO_PLACES:
            for name in ("tie", "untie"):
                self.alike(self.refused(UnknownPlace, getattr(project, name), value, "z").asked, value)
                self.alike(self.refused(UnknownPlace, getattr(project, name), "a", value).asked, value)
            self.alike(self.refused(UnknownPlace, project.remove, value).asked, value)
            self.alike(self.refused(UnknownPlace, project.lead, value, None).asked, value)
        for value in NO_NUMBERS:
            self.alike(self.refused(InvalidNumber, project.tie, "a", "b", value).number, value)
            self.alike(self.refused(InvalidNumber, project.untie, "a", "b", value).number, value)
        self.refused(InvalidOperation, project.tie, "a", "a", None)
        self.refused(InvalidOperation, project.untie, "a", "a", None)
        self.refused(InvalidNumber, project.untie, "a", "b", 2)
        self.refused(InvalidNet, project.tie, "a", "b", 58)
        for value in NO_WORDS:
            self.refused(InvalidWord, project.add, value)
        self.refused(InvalidNet, project.add, "a")
        for value in (*STRANGE, (), ("a", "b"), ("b", "b"), ("a", "a"), ("c", "a"), ["a", "c"]):
            self.refused(InvalidOperation, project.lead, "b", value)
        for value in NO_NEW_TIES:
            self.refused(InvalidOperation, project.widen, value)
        self.refused(InvalidNet, project.widen, (("a", "b"),) * 60)
        self.alike(state(project), before)
        self.refused(InvalidNet, Project(NINE).add, "j")
        self.refused(InvalidNet, Project(ONE).remove, "a")
        self.refused(UnknownPlace, Project(ONE).remove, "b")
        self.refused(InvalidNet, Project(SIXTY).tie, "dock", "pier")

    def test_a_pin_that_a_change_would_break(self):
        project = Project(HUB)
        for saying in (("ready", "z"), ("least", "b", "c", 3), ("fold", 2), ("new", 3, 0), ("least", "a", "b", 3),
                       ("keeps", "z", "a", "b")):
            project.pin(saying)
        project.tie("b", "c", 3)
        project.undo()
        before = state(project)
        causes = []
        for call, given in ((project.untie, ("a", "b")), (project.remove, ("c",)), (project.remove, ("z",)), (project.add, ("d",)),
                            (project.lead, ("a", ("b", "z"))), (project.untie, ("a", "z"))):
            made = {"untie": lambda: project.net.untied(*given), "remove": lambda: project.net.without_place(*given),
                    "add": lambda: project.net.with_place(*given), "lead": lambda: led_past(project.net, *given)}[call.__name__]()
            broken = [pin for pin in project.pins if not holds(made, pin)]
            self.assertTrue(broken)
            self.alike(self.refused(Refused, call, *given).cause, broken[0])
            self.alike(state(project), before)
            causes.append(broken[0][0])
        self.assertGreater(len({*causes}), 2)
        # What was taken back can still be made again.
        project.redo()
        self.alike(project.net.tied("b", "c"), 4)
        # The errors of the call come ahead of the pins.
        self.refused(UnknownPlace, project.untie, "a", "q")
        self.refused(InvalidNumber, project.untie, "a", "b", 2)


class Pinned(Case):

    def test_all_kinds_in_order(self):
        project = Project(HUB)
        sayings = [("ready", "z"), ("new", 4, 60), ("least", "b", "c", 3), ("keeps", "z", "a", "c"), ("fold", 3), ("least", "a", "z", 4),
                   ("new", 3, 0),
                   ("fold", 0), ("ready", "a"), ("keeps", "z", "a", "b"), ("least", "b", "c", 0)]
        for saying in sayings:
            self.assertIsNone(project.pin(saying))
            self.assertIsNone(project.pin(saying))
        self.alike(project.pins, tuple(sorted(sayings)))
        self.alike((project.depth, project.news), (0, ()))
        for saying in sayings[::2]:
            self.assertIsNone(project.unpin(saying))
        self.alike(project.pins, tuple(sorted(sayings[1::2])))

    def test_twenty_pins_and_one_more(self):
        project = Project(SIXTY)
        for many in range(20):
            project.pin(("least", "dock", "pier", many))
        self.alike(self.refused(TooMany, project.pin, ("least", "dock", "pier", 20)).limit, 20)
        project.pin(("least", "dock", "pier", 7))
        self.alike(len(project.pins), 20)
        self.refused(InvalidOperation, project.pin, ("least", "dock", "pier", 61))
        self.refused(UnknownPlace, project.pin, ("least", "dock", "ship", 1))
        pair = Project(PAIR)
        for many in range(20):
            pair.pin(("new", 2 + many % 8, 50 + many // 8))
        self.alike(self.refused(Refused, pair.pin, ("fold", 5)).cause, ("fold", 5))
        self.alike(self.refused(TooMany, pair.pin, ("fold", 4)).limit, 20)
        pair.unpin(("new", 2, 50))
        pair.pin(("fold", 4))
        self.alike(len(pair.pins), 20)

    def test_no_pins(self):
        project = Project(HUB)
        project.pin(("fold", 1))
        before = state(project)
        for value in NO_SAYINGS:
            self.refused(InvalidOperation, project.pin, value)
            self.refused(InvalidOperation, project.unpin, value)
            self.refused(InvalidOperation, project.holds, value)
        for saying, place in ((("least", "a", "q", 0), "q"), (("least", "k", "q", 0), "k"), (("ready", "dock"), "dock"),
                              (("keeps", "z", "x", "q"), "x"),
                              (("keeps", "q", "x", "a"), "q"), (("keeps", "z", "a", "y"), "y")):
            self.alike(self.refused(UnknownPlace, project.pin, saying).asked, place)
            self.alike(self.refused(UnknownPlace, project.holds, saying).asked, place)
            self.refused(InvalidOperation, project.unpin, saying)
        for saying in (("least", "a", "b", 4), ("fold", 4), ("keeps", "z", "b", "c"), ("keeps", "z", "b", "a"), ("keeps", "a", "a", "b"),
                       ("new", 4, 0)):
            self.alike(self.refused(Refused, project.pin, saying).cause, saying)
            self.assertIs(project.holds(saying), False)
        self.refused(Refused, Project(PATH).pin, ("ready", "b"))
        for saying in (("fold", 0), ("fold", 2), ("ready", "a")):
            self.refused(InvalidOperation, project.unpin, saying)
        self.alike(state(project), before)

    def test_holds(self):
        for seed, net in enumerate([net for net in SMALL if len(net) <= 5][:50]):
            project = Project(net)
            for saying in drawn_sayings(net, seed, 30):
                if "q" in saying:
                    self.alike(self.refused(UnknownPlace, project.holds, saying).asked, "q")
                else:
                    self.assertIs(project.holds(saying), holds(net, saying), saying)
        self.assertIs(Project(ONE).holds(("fold", 60)), True)
        self.assertIs(Project(ONE).holds(("ready", "a")), True)
        self.assertIs(Project(CROWD).holds(("new", 9, 60)), True)


class Undone(Case):

    def test_undo_and_redo(self):
        project = Project(PATH)
        nets = [PATH]
        for name, given in (("tie", ("a", "c")), ("add", ("d",)), ("tie", ("d", "a", 2)), ("lead", ("d", ("a", "a"))), ("remove", ("b",))):
            getattr(project, name)(*given)
            nets.append(project.net)
        self.alike(project.depth, 5)
        for back, at in ((1, 4), (2, 2), (1, 1)):
            old = project.net
            told = project.undo(back)
            self.alike((project.net.lines, told, project.news, project.depth), (nets[at].lines,) + (news_between(old, nets[at]),
                                                                                                    ) * 2 + (at,))
        for forth, at in ((1, 2), (3, 5)):
            old = project.net
            told = project.redo(forth)
            self.alike((project.net.lines, told, project.news, project.depth), (nets[at].lines,) + (news_between(old, nets[at]),
                                                                                                    ) * 2 + (at,))
        self.alike(project.undo(), news_between(nets[5], nets[4]))
        self.alike(project.redo(), news_between(nets[4], nets[5]))
        self.alike(project.undo(many=5), news_between(nets[5], PATH))
        self.alike(project.redo(many=5), news_between(PATH, nets[5]))

    def test_by_nothing(self):
        project = Project(PATH)
        self.alike((project.undo(0), project.redo(0), project.news), ((), (), ()))
        project.tie("a", "c")
        before = state(project)
        self.assertNotEqual(project.news, ())
        self.alike((project.undo(0), project.redo(0)), ((), ()))
        self.alike(state(project), before)
        project.undo()
        news = project.news
        project.undo(0)
        self.alike(project.news, news)
        self.assertEqual(len(project.redo()), 3)

    def test_by_too_many(self):
        project = Project(PATH)
        project.tie("a", "c")
        project.tie("a", "b")
        project.undo()
        before = state(project)
        for value in NO_NUMBERS:
            self.alike(self.refused(InvalidNumber, project.undo, value).number, value)
            self.alike(self.refused(InvalidNumber, project.redo, value).number, value)
        for many in (2, 3, 10 ** 60 - 1):
            self.alike(self.refused(NothingToUndo, project.undo, many).amount, many)
            self.alike(self.refused(NothingToUndo, project.redo, many).amount, many)
        self.alike(self.refused(NothingToUndo, Project(ONE).undo).amount, 1)
        self.alike(self.refused(NothingToUndo, Project(ONE).redo).amount, 1)
        self.alike(state(project), before)

    def test_refused_by_a_pin(self):
        project = Project(PATH)
        project.tie("a", "c")
        project.pin(("fold", 2))
        project.pin(("ready", "a"))
        before = state(project)
        self.alike(self.refused(Refused, project.undo).cause, ("fold", 2))
        self.alike(state(project), before)
        self.alike(self.refused(NothingToUndo, project.undo, 2).amount, 2)
        project.unpin(("fold", 2))
        self.alike(self.refused(Refused, project.undo).cause, ("ready", "a"))
        project.unpin(("ready", "a"))
        project.untie("a", "b")
        project.undo()
        project.pin(("least", "a", "b", 2))
        before = state(project)
        self.alike(self.refused(Refused, project.redo).cause, ("least", "a", "b", 2))
        self.alike(state(project), before)
        project.unpin(("least", "a", "b", 2))
        self.alike(project.redo(), (("a", "b", 2, 1), ("a", "c", 2, 1), ("b", "c", 2, 1)))

    def test_only_the_last_net_is_held_against_the_pins(self):
        project = Project(RING)
        project.untie("a", "b")
        project.tie("a", "b")
        project.pin(("fold", 2))
        self.refused(Refused, project.undo)
        self.alike((project.undo(2), project.depth, project.redo(2), project.depth), ((), 0, (), 2))
        self.alike(project.net.lines, RING.lines)

    def test_pins_are_not_taken_back(self):
        project = Project(RING)
        project.tie("a", "c")
        project.pin(("fold", 2))
        project.undo()
        self.alike(project.pins, (("fold", 2),))
        project.unpin(("fold", 2))
        project.redo()
        self.alike(project.pins, ())

    def test_a_change_lets_nothing_be_made_again(self):
        for given in (("a", "c"), ("a", "c", 0)):
            project = Project(RING)
            project.tie("a", "b")
            project.tie("b", "c")
            project.undo(2)
            project.tie(*given)
            self.alike(self.refused(NothingToUndo, project.redo).amount, 1)
            self.alike(project.depth, 1)
        project = Project(RING)
        project.tie("a", "b")
        project.undo()
        self.refused(UnknownPlace, project.tie, "a", "q")
        project.pin(("fold", 2))
        project.redo()
        self.alike(project.depth, 1)

    def test_drawn_histories(self):
        for seed in range(25):
            draw = random.Random(seed)
            project = Project(draw.choice(SMALL))
            past, coming, pins = [project.net], [], []
            for _ in range(25):
                net = project.net
                name = draw.choice(("tie", "untie", "add", "remove", "lead", "widen", "undo", "redo", "pin", "unpin"))
                words = [*net.places, "n", "m"]
                given = {"tie": lambda: (*draw.sample(words, 2), draw.randint(0, 3)), "untie": lambda: tuple(draw.sample(words, 2)),
                         "add": lambda: (draw.choice("nmo"),), "remove": lambda: (draw.choice(words),),
                         "undo": lambda: (draw.randint(0, 2),),
                         "redo": lambda: (draw.randint(0, 2),), "lead": lambda: (draw.choice(words),
                                                                                 tuple(sorted(draw.choices(words, k=2)))),
                         "widen": lambda: (tuple(sorted(tuple(sorted(draw.choices(net.places, k=2))) for _ in range(2))),),
                         "pin": lambda: (draw.choice(drawn_sayings(net, draw.random(), 1)),),
                         "unpin": lambda: (draw.choice([*pins, ("fold", 1)]),)}[name]()
                before = state(project)
                try:
                    told = getattr(project, name)(*given)
                except (InvalidNet, InvalidNumber, InvalidOperation, NothingToUndo, Refused, TooMany, UnknownPlace):
                    self.alike(state(project), before)
                    continue
                if name == "pin":
                    pins = sorted({*pins, given[0]})
                elif name == "unpin":
                    pins.remove(given[0])
                elif name in ("undo", "redo"):
                    for _ in range(given[0]):
                        if name == "undo":
                            coming.append(past.pop())
                        else:
                            past.append(coming.pop())
                else:
                    past.append(project.net)
                    coming = []
                self.assertTrue(project.net == past[-1])
                self.alike((project.depth, project.pins), (len(past) - 1, tuple(pins)))
                if name not in ("pin", "unpin"):
                    self.alike(told, news_between(net, project.net))
                self.assertTrue(all(holds(project.net, pin) for pin in pins))


if __name__ == "__main__":
    unittest.main()
