"""Projects: a net that is changed by calls, as long as what is pinned holds."""

from keptways.base.nets import MAX_TIES, check_net, check_place
from keptways.base.words import is_integer, is_pair, is_word
from keptways.errors import InvalidNumber, InvalidOperation, NothingToUndo, Refused, TooMany
from keptways.grow.growth import holds_all
from keptways.more.rows import MAX_FOLD, with_new
from keptways.more.ties import fewest_ties
from keptways.past.pairs import keeping_pairs, led_past
from keptways.past.whole import is_ready
from keptways.ways.flows import number
from keptways.ways.trees import all_numbers

MAX_PINS = 20


def _is_between(value, least, most):
    """Whether the value is an integer in these bounds."""
    return is_integer(value) and least <= value <= most


def _is_saying(value):
    """Whether the value is a saying."""
    if not isinstance(value, tuple) or len(value) < 2:
        return False
    word = value[0]
    if word == "least":
        return len(value) == 4 and is_pair(value[1:3]) and _is_between(value[3], 0, MAX_TIES)
    if word == "fold":
        return len(value) == 2 and _is_between(value[1], 0, MAX_TIES)
    if word == "ready":
        return len(value) == 2 and is_word(value[1])
    if word == "keeps":
        return len(value) == 4 and all([is_word(place) for place in value[1:]])
    return (word == "new" and len(value) == 3 and _is_between(value[1], 2, MAX_FOLD)
            and _is_between(value[2], 0, MAX_TIES))


def _places_in(saying):
    """The places that a saying names, from the left."""
    return [item for item in saying[1:] if is_word(item)]


def _does_hold(net, saying):
    """Whether a saying fits a net, and is true."""
    if not all([place in net for place in _places_in(saying)]):
        return False
    word = saying[0]
    if word == "least":
        return number(net, saying[1], saying[2]) >= saying[3]
    if word == "fold":
        return holds_all(net, saying[1])
    if word == "ready":
        return is_ready(net, saying[1])
    if word == "keeps":
        return saying[2:] in keeping_pairs(net, saying[1])
    return fewest_ties(net, saying[1]) <= saying[2]


def _news_between(old, new):
    """The news of a change from one net to another one."""
    before = all_numbers(old)
    behind = all_numbers(new)
    return tuple([(*pair, before[pair], behind[pair]) for pair in before
                  if pair in behind and before[pair] != behind[pair]])


def _check_many(many):
    """Refuse what is no number of changes."""
    if not is_integer(many) or many < 0:
        raise InvalidNumber(many)


class Project:
    """A net that is changed by calls."""

    def __init__(self, net):
        check_net(net)
        self._net = net
        self._places = net.places
        # The nets that `undo` leads back to, and those that `redo` leads to, the next change in the middle.
        self._behind = ()
        self._ahead = ()
        self._pins = ()
        self._news = ()

    @property
    def net(self):
        """The net now."""
        return self._net

    @property
    def pins(self):
        """The ascending tuple of the pinned sayings."""
        return self._pins

    @property
    def depth(self):
        """The number of changes that can be taken back."""
        return len(self._behind)

    @property
    def news(self):
        """The news of the last call that changed the net, or an empty tuple."""
        return self._news

    def tie(self, one, other, many=1):
        """Put so many ties more between two places."""
        return self._change(self._net.joined(one, other, many))

    def untie(self, one, other, many=1):
        """Take so many ties between two places off."""
        return self._change(self._net.untied(one, other, many))

    def add(self, place):
        """Put a place in, without ties."""
        return self._change(self._net.with_place(place))

    def remove(self, place):
        """Take a place and its ties off."""
        return self._change(self._net.without_place(place))

    def lead(self, place, pair):
        """Lead a pair past a place."""
        return self._change(led_past(self._net, place, pair))

    def widen(self, new_ties):
        """Put new ties in."""
        return self._change(with_new(self._net, new_ties))

    def pin(self, saying):
        """Pin a saying that holds."""
        if not self.holds(saying):
            raise Refused(saying)
        if saying in self._pins:
            return
        if len(self._pins) == MAX_PINS:
            raise TooMany(MAX_PINS)
        self._pins = tuple(sorted([*self._pins, saying]))

    def unpin(self, saying):
        """Let a saying be pinned no more."""
        if saying not in self:
            raise InvalidOperation("there is no such pin")
        self._pins = tuple([pin for pin in self._pins if pin != saying])

    def holds(self, saying):
        """Whether a saying holds."""
        if not _is_saying(saying):
            raise InvalidOperation("there is no such saying")
        for place in _places_in(saying):
            check_place(self._net, place)
        return _does_hold(self._net, saying)

    def undo(self, many=1):
        """Take the last changes back."""
        _check_many(many)
        if many > len(self._behind):
            raise NothingToUndo(many)
        return self._go(-many)

    def redo(self, many=1):
        """Make changes again that were taken back last."""
        _check_many(many)
        if many > len(self._ahead):
            raise NothingToUndo(many)
        return self._go(many)

    def bridges(self):
        """The ascending tuple of the pairs with a tie that alone joins its ends."""
        numbers = all_numbers(self._net)
        return tuple([pair for pair in self._net.ties if numbers[pair] == 1])

    def weak(self):
        """The ascending tuple of the pairs with the least number."""
        numbers = all_numbers(self._net)
        return tuple([pair for pair in numbers if numbers[pair] == min(numbers.values())])

    def __contains__(self, value):
        return _is_saying(value) and value in self._pins

    def __len__(self):
        return len(self._places)

    def __iter__(self):
        return iter(self._places)

    def __eq__(self, other):
        return isinstance(other, Project) and self._net == other._net and self._pins == other._pins

    def __str__(self):
        return f"{len(self._places)} places, {len(self._pins)} pins, {len(self._behind)} changes"

    def _change(self, net):
        """Make a change to another net."""
        return self._become(net, (*self._behind, self._net), ())

    def _go(self, steps):
        """Go so many changes forth, or back below 0."""
        if steps == 0:
            return ()
        line = (*self._behind, self._net, *self._ahead)
        at = len(self._behind) + steps
        return self._become(line[at], line[:at], line[at + 1:])

    def _become(self, net, behind, ahead):
        """Have another net, if all pins hold for it, and tell the news."""
        for pin in self._pins:
            if not _does_hold(net, pin):
                raise Refused(pin)
        self._news = _news_between(self._net, net)
        self._net = net
        self._places = net.places
        self._behind = behind
        self._ahead = ahead
        return self._news
