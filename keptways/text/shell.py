"""A shell: a project that is changed, and asked, by lines of text."""

from keptways.base.nets import Net, ordered
from keptways.base.words import is_word
from keptways.errors import InvalidNet, InvalidNumber, InvalidOperation, NothingToUndo, NoWay, Refused, TooMany
from keptways.errors import UnknownPlace
from keptways.grow.growth import growth_of
from keptways.grow.halves import halved
from keptways.grow.streets import streets_for
from keptways.more.ties import fewest_ties, ties_paper
from keptways.past.pairs import does_keep, keeping_pairs
from keptways.past.whole import whole_past
from keptways.text.texts import NOTHING, is_written, read, read_number, write
from keptways.use.project import Project
from keptways.ways.flows import family, farthest_lot, nearest_lot, number
from keptways.ways.trees import classes, cut_tree, least_number


def _news_text(news):
    """The text of news."""
    return " ".join([f"{one}-{other}:{old}:{new}" for one, other, old, new in news]) if len(news) > 0 else NOTHING


def _yes_or_no(answer):
    """The text of an answer that is true or not."""
    return "yes" if answer else "no"


def _tie(project, one, other, many):
    """The answer to `tie A B N`."""
    return _news_text(project.tie(one, other, many))


def _untie(project, one, other, many):
    """The answer to `untie A B N`."""
    return _news_text(project.untie(one, other, many))


def _add(project, place):
    """The answer to `add A`."""
    return _news_text(project.add(place))


def _remove(project, place):
    """The answer to `remove A`."""
    return _news_text(project.remove(place))


def _lead(project, place, pair):
    """The answer to `lead Z A-B`."""
    return _news_text(project.lead(place, pair))


def _widen(project, new_ties):
    """The answer to `widen PAIRS`."""
    return _news_text(project.widen(new_ties))


def _undo(project, many):
    """The answer to `undo N`."""
    return _news_text(project.undo(many))


def _redo(project, many):
    """The answer to `redo N`."""
    return _news_text(project.redo(many))


def _pin(project, one, other, many):
    """The answer to `pin A B N`."""
    project.pin(("least", *ordered(one, other), many))
    return "ok"


def _show(project):
    """The answer to `show`."""
    return "; ".join(project.net.lines)


def _number(project, one, other):
    """The answer to `number A B`."""
    return str(number(project.net, one, other))


def _near(project, one, other):
    """The answer to `near A B`."""
    return write("lot", nearest_lot(project.net, one, other))


def _far(project, one, other):
    """The answer to `far A B`."""
    return write("lot", farthest_lot(project.net, one, other))


def _ways(project, one, other):
    """The answer to `ways A B`."""
    return write("ways", family(project.net, one, other))


def _tree(project):
    """The answer to `tree`."""
    return write("tree", cut_tree(project.net))


def _classes(project, k):
    """The answer to `classes K`."""
    return "; ".join([write("lot", lot) for lot in classes(project.net, k)])


def _keeps(project, place, pair):
    """The answer to `keeps Z A-B`."""
    return _yes_or_no(does_keep(project.net, place, pair))


def _pairs(project, place):
    """The answer to `pairs Z`."""
    return write("pairs", keeping_pairs(project.net, place))


def _past(project, place):
    """The answer to `past Z`."""
    return write("pairs", whole_past(project.net, place))


def _grown(project, k):
    """The answer to `grown K`."""
    # Here k can be greater than that of any growth.
    return _yes_or_no(len(project.net.places) == 1 or least_number(project.net) >= 2 * k)


def _growth(project, k):
    """The answer to `growth K`."""
    return write("growth", growth_of(project.net, k))


def _streets(project, k):
    """The answer to `streets K`."""
    return write("streets", streets_for(project.net, k))


def _halves(project):
    """The answer to `halves`."""
    return write("streets", halved(project.net))


def _fewest(project, fold):
    """The answer to `fewest K`."""
    return str(fewest_ties(project.net, fold))


def _new(project, fold):
    """The answer to `new K`."""
    new_ties, _ = ties_paper(project.net, fold)
    return write("pairs", new_ties)


_ANSWERS = {
    "tie": _tie, "untie": _untie, "add": _add, "remove": _remove, "lead": _lead, "widen": _widen, "undo": _undo,
    "redo": _redo, "pin": _pin, "show": _show, "number": _number, "near": _near, "far": _far, "ways": _ways,
    "tree": _tree, "classes": _classes, "keeps": _keeps, "pairs": _pairs, "past": _past, "grown": _grown,
    "growth": _growth, "streets": _streets, "halves": _halves, "fewest": _fewest, "new": _new}

# The kinds of the items of a command. Those in the plural take all items that are left.
_ITEMS = {
    "net": ("places",), "tie": ("place", "place", "number"), "untie": ("place", "place", "number"),
    "add": ("place",), "remove": ("place",), "lead": ("place", "pair"), "widen": ("pairs",), "undo": ("number",),
    "redo": ("number",), "pin": ("place", "place", "number"), "show": (), "number": ("place", "place"),
    "near": ("place", "place"), "far": ("place", "place"), "ways": ("place", "place"), "tree": (),
    "classes": ("number",), "keeps": ("place", "pair"), "pairs": ("place",), "past": ("place",),
    "grown": ("number",), "growth": ("number",), "streets": ("number",), "halves": (), "fewest": ("number",),
    "new": ("number",)}


def _value_of(kind, item):
    """What an item of a kind tells, or None if it is none."""
    if kind == "number":
        return read_number(item)
    if kind == "place":
        return item if is_word(item) else None
    return read("pairs", item)[0] if item != NOTHING and is_written("pairs", item) else None


def _values_of(kinds, items):
    """The list of what the items of a command tell, or None if they are others."""
    if kinds == ("places",):
        return [tuple(items)] if len(items) > 0 and all([is_word(item) for item in items]) else None
    if kinds == ("pairs",):
        told = " ".join(items)
        return [read("pairs", told)] if is_written("pairs", told) else None
    if len(items) != len(kinds):
        return None
    values = [_value_of(kind, item) for kind, item in zip(kinds, items)]
    return None if None in values else values


class Shell:
    """A project, or none at first, and the lines that were run."""

    def __init__(self):
        self._project = None
        self._past_lines = ()

    @property
    def net(self):
        """The net now, or None."""
        return None if self._project is None else self._project.net

    @property
    def past_lines(self):
        """The tuple of all lines run so far that were not answered by an error."""
        return self._past_lines

    def run(self, line):
        """The answer to a command."""
        if not isinstance(line, str):
            raise InvalidOperation("a command is a string")
        answer, wrong = self._answer(line)
        if wrong is not None:
            return f"error {wrong}"
        self._past_lines = (*self._past_lines, line)
        return answer

    def run_all(self, *lines):
        """The tuple of the answers to commands, one after the other."""
        if not all([isinstance(line, str) for line in lines]):
            raise InvalidOperation("a command is a string")
        return tuple([self.run(line) for line in lines])

    def __len__(self):
        return len(self._past_lines)

    def __iter__(self):
        return iter(self._past_lines)

    def __eq__(self, other):
        return isinstance(other, Shell) and self._past_lines == other._past_lines

    def __str__(self):
        if self._project is None:
            return f"{len(self._past_lines)} lines, no net"
        return f"{len(self._past_lines)} lines, {len(self._project)} places"

    def _answer(self, line):
        """The answer to a line and None, or None and the name of the error that answers it."""
        word, *items = line.split(" ")
        values = _values_of(_ITEMS[word], items) if word in _ITEMS else None
        if values is None:
            return None, "ParseError"
        if self._project is None and word != "net":
            return None, "InvalidOperation"
        # All errors that a call for these commands can raise; it changes nothing then.
        try:
            return self._call(word, values), None
        except InvalidNet:
            return None, "InvalidNet"
        except InvalidNumber:
            return None, "InvalidNumber"
        except InvalidOperation:
            return None, "InvalidOperation"
        except NoWay:
            return None, "NoWay"
        except NothingToUndo:
            return None, "NothingToUndo"
        except Refused:
            return None, "Refused"
        except TooMany:
            return None, "TooMany"
        except UnknownPlace:
            return None, "UnknownPlace"

    def _call(self, word, values):
        """The answer to a command with these values of its items."""
        if word == "net":
            self._project = Project(Net(values[0]))
            return "ok"
        answer = _ANSWERS[word]
        return answer(self._project, *values)
