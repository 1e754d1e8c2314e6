"""Class Shell."""

import operator
import random
import unittest

from keptways.base.nets import Net
from keptways.errors import InvalidOperation
from keptways.grow.growth import is_growth
from keptways.grow.halves import keeps_halves
from keptways.grow.streets import is_streets, is_streets_paper
from keptways.more.rows import with_new
from keptways.past.whole import is_whole_past
from keptways.text.shell import Shell
from keptways.text.texts import read, write
from keptways.ways.flows import farthest_lot, is_family, nearest_lot
from keptways.ways.trees import is_cut_tree
from tests import looks, looks_new
from tests.samples import ALL, CROWD, FULL, HUB, LOOSE, NINE, ONE, PAIR, RING, SIXTY, SMALL, STRANGE, Case
from tests.test_project import news_between

COMMANDS = {"net": "PP", "tie": "PPN", "untie": "PPN", "add": "P", "remove": "P", "lead": "PA", "widen": "L", "undo": "N", "redo": "N",
            "pin": "PPN",
            "show": "", "number": "PP", "near": "PP", "far": "PP", "ways": "PP", "tree": "", "classes": "N", "keeps": "PA", "pairs": "P",
            "past": "P",
            "grown": "N", "growth": "N", "streets": "N", "halves": "", "fewest": "N", "new": "N"}
SAMPLE = {"P": "a", "N": "1", "A": "a-b", "L": "a-b"}
OTHER = {"P": ("A", "a-b", "1", "", "-", "abcdefghi", "a,", "a\n", "a\tb"),
         "N": ("a", "01", "100", "-1", "+1", "", "1.0", "-", "1\n", "\u0663", "1_0", "00"),
         "A": ("a", "b-a", "a-", "-", "", "a-b-c", "a>b", "A-b", "a-b:1", "1"),
         "L": ("a", "b-a", "", "a-b -", "- a-b", "a-b  a-b", "A-b", "- -", "a-b ", "--")}


def shell_of(net):
    """A shell with a net that is put together by commands."""
    shell = Shell()
    shell.run_all("net " + " ".join(net.places), *[f"tie {one} {other} {many}" for (one, other), many in net.ties.items()])
    return shell


def state(shell):
    return (None if shell.net is None else shell.net.lines, shell.past_lines, str(shell), len(shell), list(shell))


class Commands(Case):

    def test_changes(self):
        shell = Shell()
        self.alike(shell.run_all("net b a c", "tie a b 2", "tie c b 1", "untie a b 1", "add d", "tie d a 3", "remove c", "undo 2",
                                 "redo 1", "undo 0"),
                   ("ok", "a-b:0:2", "a-c:0:1 b-c:0:1", "a-b:2:1", "-", "a-d:0:3 b-d:0:1 c-d:0:1", "-", "a-d:3:0 b-d:1:0",
                    "a-d:0:3 b-d:0:1 c-d:0:1", "-"))
        self.alike(shell.run_all("lead a b-d", "widen -", "undo 1", "widen a-a a-b a-b b-d", "show"),
                   ("a-d:3:2", "-", "-", "a-b:1:4 a-d:2:4 b-d:1:4", "a b c d; a b 2; a d 2; b c 1; b d 2"))

    def test_news_are_those_of_the_project(self):
        for net in SMALL[:30]:
            if len(net) < 2:
                continue
            shell = shell_of(net)
            self.assertTrue(shell.net == net)
            one, other = net.places[:2]
            for line, made in ((f"tie {other} {one} 2", net.joined(one, other, 2)), ("add zz", net.with_place("zz")),
                               (f"remove {one}", net.without_place(one)),
                               (f"widen {one}-{other} {one}-{other}", with_new(net, ((one, other),) * 2))):
                told = news_between(net, made)
                self.alike(shell.run(line), " ".join(f"{here}-{there}:{old}:{new}" for here, there, old, new in told) or "-")
                self.assertTrue(shell.net == made)
                back = news_between(made, net)
                self.alike(shell.run("undo 1"), " ".join(f"{here}-{there}:{old}:{new}" for here, there, old, new in back) or "-")
                self.assertTrue(shell.net == net)

    def test_lead_and_widen(self):
        shell = shell_of(HUB)
        self.alike(shell.run("lead z a-b"), "a-z:4:2 b-z:3:2 c-z:3:2")
        self.alike(shell.run_all("undo 1", "redo 1", "show"), ("a-z:2:4 b-z:2:3 c-z:2:3", "a-z:4:2 b-z:3:2 c-z:3:2",
                                                               "a b c z; a b 2; a c 1; a z 1; b c 1; c z 1"))
        self.alike(shell.run_all("lead z a-a", "lead a z-z", "lead q a-b", "widen b-c a-b", "widen a-q", "widen a-b a-b a-b"),
                   ("error InvalidOperation", "error InvalidOperation", "error UnknownPlace", "error InvalidOperation",
                    "error InvalidOperation", "a-b:3:6"))

    def test_pins(self):
        shell = shell_of(HUB)
        self.alike(shell.run_all("pin b a 3", "pin a z 5", "pin a a 0", "pin a b 61", "pin a q 0", "pin z c 3", "untie a b 1", "add d",
                                 "add d", "undo 1", "show"),
                   ("ok", "error Refused", "error InvalidOperation", "error InvalidOperation", "error UnknownPlace", "ok",
                    "error Refused", "-",
                    "error InvalidNet", "-", "a b c z; a b 1; a c 1; a z 2; b c 1; b z 1; c z 1"))
        pair = shell_of(SIXTY)
        answers = pair.run_all(*[f"pin dock pier {many}" for many in range(22)], "pin pier dock 5")
        self.alike(answers, ("ok",) * 20 + ("error TooMany",) * 2 + ("ok",))
        # A new net has no pins.
        self.alike(pair.run_all("net dock pier", "untie dock pier 0", "pin dock pier 0", "pin dock pier 1"),
                   ("ok", "-", "ok", "error Refused"))

    def test_lots_and_ways(self):
        for net in (*SMALL[:25], CROWD, SIXTY):
            shell = shell_of(net)
            for one, other in net.pairs[:3]:
                self.alike(shell.run_all(f"number {other} {one}", f"near {other} {one}", f"far {other} {one}"),
                           (str(looks.number(net, one, other)), " ".join(nearest_lot(net, other, one)),
                            " ".join(farthest_lot(net, other, one))))
                ways = read("ways", shell.run(f"ways {other} {one}"))
                self.assertTrue(is_family(net, other, one, ways) and len(ways) == looks.number(net, one, other))
            self.assertTrue(is_cut_tree(net, read("tree", shell.run("tree"))))
            self.alike(shell.run("show"), "; ".join(net.lines))
        self.alike(shell_of(LOOSE).run_all("ways a b", "near a b", "far a b", "number c a"), ("-", "a", "a c", "0"))
        self.alike(shell_of(ONE).run_all("tree", "halves", "streets 3", "growth 2", "past a", "pairs a", "number a a", "near a b"),
                   ("-", "-", "-", "a", "-", "-", "error UnknownPlace", "error UnknownPlace"))

    def test_classes(self):
        self.alike(shell_of(PAIR).run_all("classes 0", "classes 4", "classes 5", "classes 99"), ("a b", "a b", "a; b", "a; b"))
        net = Net(("a", "b", "c", "d"), {("a", "c"): 3, ("b", "d"): 2, ("a", "b"): 1})
        self.alike(shell_of(net).run_all("classes 1", "classes 2", "classes 3"), ("a b c d", "a c; b d", "a c; b; d"))

    def test_leading_past(self):
        shell = shell_of(HUB)
        self.alike(shell.run_all("keeps z a-b", "keeps z b-c", "keeps z b-b", "keeps q a-b", "pairs z", "pairs b", "pairs q", "past b"),
                   ("yes", "no", "error InvalidOperation", "error UnknownPlace", "a-b a-c", write("pairs",
                                                                                                  tuple(pair for pair in looks.pairs_at(HUB, "b") if looks.does_keep(HUB, "b", pair))),
                    "error UnknownPlace", "error NoWay"))
        self.assertTrue(is_whole_past(HUB, "z", read("pairs", shell.run("past z"))))
        self.alike(shell.run("past q"), "error UnknownPlace")

    def test_growths_and_streets(self):
        shell = shell_of(RING)
        self.alike(shell.run_all("grown 0", "grown 1", "grown 2", "grown 99", "growth 0", "growth 2", "growth 31", "streets 0",
                                 "streets 2", "streets 31"),
                   ("yes", "yes", "no", "no", "error InvalidNumber", "error NoWay", "error InvalidNumber", "error InvalidNumber",
                    "error NoWay", "error InvalidNumber"))
        self.assertTrue(is_growth(RING, 1, read("growth", shell.run("growth 1"))))
        self.assertTrue(is_streets_paper(RING, 1, ("streets", read("streets", shell.run("streets 1")))))
        for net in (*SMALL[:25], CROWD, SIXTY):
            shell = shell_of(net)
            streets = read("streets", shell.run("halves"))
            self.assertTrue(is_streets(net, streets) and keeps_halves(net, streets))
            least = min(looks.numbers(net).values(), default=None)
            for half in (0, 1, 2, 30, 31, 99):
                self.alike(shell.run(f"grown {half}"), "yes" if least is None or least >= 2 * half else "no")
        self.alike(shell_of(ONE).run_all("grown 0", "grown 31", "grown 99"), ("yes", "yes", "yes"))
        self.alike(shell_of(SIXTY).run_all("grown 30", "grown 31"), ("yes", "no"))
        self.assertTrue(is_growth(SIXTY, 30, read("growth", shell_of(SIXTY).run("growth 30"))))

    def test_new_ties(self):
        self.alike(shell_of(RING).run_all("fewest 3", "fewest 2", "fewest 1", "fewest 10", "new 1", "new 2"),
                   ("3", "0", "error InvalidNumber", "error InvalidNumber", "error InvalidNumber", "-"))
        for net in SMALL[:25]:
            for fold in (2, 3, 9):
                new_ties = read("pairs", shell_of(net).run(f"new {fold}"))
                self.assertTrue(looks_new.right_fold(net, fold, new_ties))
                self.alike(shell_of(net).run(f"fewest {fold}"), str(len(new_ties)))
        self.alike(shell_of(SIXTY).run_all("add ship", "fewest 9", "new 9"), ("-", "9", "error InvalidNet"))

    def test_histories(self):
        shell = shell_of(PAIR)
        self.alike(shell.run_all("undo 2", "redo 2", "undo 1", "redo 1", "redo 1"), ("error NothingToUndo", "error NothingToUndo",
                                                                                     "a-b:4:0", "a-b:0:4", "error NothingToUndo"))

    def test_nets(self):
        shell = Shell()
        self.alike(shell.run_all("net a a", "net a b c d e f g h i j", "net", "net A", "net a-b", "show", "net dock", "show", "net c b a",
                                 "show", "undo 1", "net q q", "show"),
                   ("error InvalidNet", "error InvalidNet", "error ParseError", "error ParseError", "error ParseError",
                    "error InvalidOperation", "ok", "dock", "ok",
                    "a b c", "error NothingToUndo", "error InvalidNet", "a b c"))
        self.alike(Shell().run("net a b c d e f g h i"), "ok")
        self.alike(NINE.lines, shell_of(NINE).net.lines)


class Lines(Case):

    def test_each_command_with_too_few_and_too_many_items(self):
        for shell in (Shell(), shell_of(FULL)):
            for word, kinds in COMMANDS.items():
                items = [SAMPLE[kind] for kind in kinds]
                if word not in ("net", "widen"):
                    for told in (items[:-1], [*items, "a"], [*items, "1"], [*items, "a-b"], [*items, ""], ["", *items]):
                        if told != items:
                            self.alike(shell.run(" ".join([word, *told])), "error ParseError")
                self.alike(shell.run(word) if items else "error ParseError", "error ParseError")
                for at, kind in enumerate(kinds):
                    for other in OTHER[kind]:
                        self.alike(shell.run(" ".join([word, *items[:at], other, *items[at + 1:]])), "error ParseError")
                for line in (" " + " ".join([word, *items]), " ".join([word, *items]) + " ", "  ".join([word,
                                                                                                        *items]) + " x" * (not items),
                             word.upper(), word + "s" * 3,
                             " ".join([word, *items]) + "\n", "\t".join([word, *items]) + "\t"):
                    self.alike(shell.run(line), "error ParseError")
        for line in ("", " ", "-", "oops", "a b", "1", "net,a", "Show", "shows", "error ParseError"):
            self.alike((Shell().run(line), shell_of(FULL).run(line)), ("error ParseError",) * 2)

    def test_without_a_project(self):
        shell = Shell()
        for word, kinds in COMMANDS.items():
            if word != "net":
                self.alike(shell.run(" ".join([word, *[SAMPLE[kind] for kind in kinds]])), "error InvalidOperation")
        self.alike(state(shell), (None, (), "0 lines, no net", 0, []))

    def test_errors_leave_all_as_it_was(self):
        shell = shell_of(FULL)
        shell.run_all("pin a b 3", "tie a b 1", "undo 1")
        before = state(shell)
        for line in ("oops", "tie a q 1", "tie a a 1", "tie a b 99", "untie a b 2", "untie a b 1", "add a", "remove q", "remove b",
                     "lead d a-d", "widen a-q", "undo 9", "redo 2",
                     "pin a b 4", "number a q", "near a a", "far q a", "ways a a", "keeps d d-d", "pairs q", "past a", "growth 2",
                     "streets 2", "fewest 1", "new 1",
                     "net a a", "net"):
            self.alike(shell.run(line)[:6], "error ")
            self.alike(state(shell), before)
        # What was taken back can still be made again.
        self.alike(shell.run("redo 1"), "a-b:3:4")

    def test_answers_that_look_like_errors(self):
        shell = Shell()
        self.alike(shell.run_all("net error zz", "show", "tie error zz 2", "near error zz", "far error zz", "classes 2", "show",
                                 "growth 1"),
                   ("ok", "error zz", "error-zz:0:2", "error", "error", "error zz", "error zz; error zz 2", shell.run("growth 1")))
        self.alike(len(shell), 9)

    def test_no_strings(self):
        shell = shell_of(FULL)
        before = state(shell)
        for value in [value for value in (*STRANGE, 1, (), FULL, ("show",), ["show"]) if not isinstance(value, str)]:
            self.refused(InvalidOperation, shell.run, value)
            self.refused(InvalidOperation, shell.run_all, value)
            self.refused(InvalidOperation, shell.run_all, "tie a b 1", value)
            self.refused(InvalidOperation, shell.run_all, "net a", "oops", value, "show")
        self.alike(state(shell), before)
        self.alike(shell.run_all(), ())

    def test_past_lines(self):
        shell = Shell()
        shell.run_all("show", "net b a", "tie a b 1", "oops", "show", "tie a b 99", "number a b", "tie a b 1")
        self.alike(shell.past_lines, ("net b a", "tie a b 1", "show", "number a b", "tie a b 1"))
        self.alike((len(shell), list(shell), str(shell)), (5, [*shell.past_lines], "5 lines, 2 places"))
        second = Shell()
        second.run_all(*shell.past_lines)
        self.assertTrue(second == shell and second.net == shell.net)
        self.alike(state(second), state(shell))

    def test_drawn_lines(self):
        for seed in range(12):
            draw = random.Random(seed)
            shell = Shell()
            answers = {}
            for _ in range(60):
                word = draw.choice(["net", *COMMANDS] if seed % 3 else [*COMMANDS][1:]) if len(shell) else "net"
                kinds = {"P": lambda: draw.choice("abcd"), "N": lambda: str(draw.choice((0, 1, 1, 2, 3, 10))),
                         "A": lambda: "-".join(sorted(draw.choices("abcd", k=2))),
                         "L": lambda: " ".join(sorted("-".join(sorted(draw.choices("abcd", k=2))) for _ in range(2)))}
                line = " ".join([word, *[kinds[kind]() for kind in COMMANDS[word]]]) if word != "net" else "net a b c d"
                before = state(shell)
                answer = shell.run(line)
                answers[line] = answer
                if answer.startswith("error "):
                    self.alike(state(shell), before)
                else:
                    self.alike(shell.past_lines, (*before[1], line))
            second = Shell()
            second.run_all(*shell)
            self.alike(state(second), state(shell))


class Told(Case):

    def test_net(self):
        shell = Shell()
        self.assertIsNone(shell.net)
        shell.run("net c a")
        self.assertTrue(shell.net == Net(("a", "c")))
        shell.net.ties["a", "c"] = 5
        self.alike(shell.net.ties, {})
        for name in ("net", "past_lines"):
            with self.assertRaises(AttributeError):
                setattr(shell, name, 1)
        with self.assertRaises(TypeError):
            operator.getitem(shell, 0)

    def test_text_and_len(self):
        self.alike((str(Shell()), len(Shell()), list(Shell()), Shell().past_lines), ("0 lines, no net", 0, [], ()))
        shell = shell_of(HUB)
        self.alike((str(shell), len(shell), list(shell)[:2]), ("7 lines, 4 places", 7, ["net a b c z", "tie a b 1"]))

    def test_equal(self):
        one, other = shell_of(PAIR), shell_of(PAIR)
        self.assertIs(one == other, True)
        self.assertIs(one != other, False)
        other.run("oops")
        self.assertIs(one == other, True)
        other.run("show")
        self.assertIs(one == other, False)
        self.assertIs(Shell() == Shell(), True)
        for value in (*STRANGE, 2, (), one.past_lines, one.net, str(one), Shell(), (one,)):
            self.assertIs(one == value, False)
            self.assertIs(value == one, False)
            self.assertIs(one != value, True)

    def test_great_nets(self):
        shell = shell_of(CROWD)
        for line in ("tree", "halves", "growth 3", "streets 3", "past a", "classes 6", "fewest 9", "keeps a b-c"):
            self.assertIsInstance(shell.run(line), str)
        for net in ALL[:10]:
            self.assertTrue(shell_of(net).net == net)


if __name__ == "__main__":
    unittest.main()
