"""Growths: nets that are grown from one place by ties and pinches."""

from keptways.base.lots import is_proper
from keptways.base.nets import MAX_PLACES, MAX_TIES, Net, are_names, check_net, ordered, tally
from keptways.base.words import is_integer, is_word
from keptways.errors import InvalidGrowth, InvalidNumber, InvalidOperation, InvalidWord, NoWay
from keptways.past.whole import steps_net, whole_past
from keptways.ways.trees import all_numbers, least_lot, least_number

MAX_HALF = 30


def check_half(k):
    """Refuse what is no k of a growth."""
    if not is_integer(k) or not 1 <= k <= MAX_HALF:
        raise InvalidNumber(k)


def _are_pinched(net, pairs):
    """Whether the value is a tuple of pairs of a pinch of the net."""
    if not isinstance(pairs, tuple) or not all([_is_pinched(net, pair) for pair in pairs]):
        return False
    taken = tally(pairs)
    return all([one == other or taken[one, other] <= net.tied(one, other) for one, other in taken])


def _is_pinched(net, pair):
    """Whether the value is a pair of places, which can be the same, in order."""
    return isinstance(pair, tuple) and len(pair) == 2 and pair[0] in net and pair[1] in net and pair[0] <= pair[1]


def _put_in(net, place, pairs):
    """The net behind a pinch."""
    ties = net.ties
    for one, other in pairs:
        if one != other:
            ties[one, other] = ties[one, other] - 1
        for tip in (one, other):
            ties[ordered(tip, place)] = ties.get(ordered(tip, place), 0) + 1
    return Net((*net.places, place), {pair: ties[pair] for pair in ties if ties[pair] > 0})


def pinched(net, place, pairs):
    """The net behind a pinch with a new place by any number of pairs."""
    check_net(net)
    if not is_word(place):
        raise InvalidWord("a new place is a word")
    if place in net or not _are_pinched(net, pairs):
        raise InvalidOperation("the place is there already, or there is no pinch by these pairs")
    return _put_in(net, place, pairs)


def _behind_tie(net, one, other):
    """The net behind a step that puts a tie in, or None if there is no such step."""
    if one not in net or other not in net or one == other or net.size == MAX_TIES:
        return None
    return net.joined(one, other)


def _behind_pinch(half, net, place, pairs):
    """The net behind a step that is a pinch, or None if there is no such step."""
    if not is_word(place) or place in net or not _are_pinched(net, pairs) or len(pairs) != half:
        return None
    # A pair of two places gives a tie for two, a pair of one place just two ties.
    more = sum([2 if one == other else 1 for one, other in pairs])
    if len(net.places) == MAX_PLACES or net.size + more > MAX_TIES:
        return None
    return _put_in(net, place, pairs)


def _behind_step(half, net, step):
    """The net behind a step, or None if the value is none."""
    if not isinstance(step, tuple) or len(step) != 3:
        return None
    if step[0] == "tie":
        return _behind_tie(net, step[1], step[2])
    return _behind_pinch(half, net, step[1], step[2]) if step[0] == "pinch" else None


def _nets_along(half, growth):
    """The nets on the way of a growth, the first one that of its first place; or none, if it is no growth."""
    if not isinstance(growth, tuple) or len(growth) == 0 or not is_word(growth[0]):
        return ()
    nets = [Net((growth[0],))]
    for step in growth[1:]:
        net = _behind_step(half, nets[-1], step)
        if net is None:
            return ()
        nets.append(net)
    return tuple(nets)


def grown(k, growth):
    """The net of a k-growth."""
    return Growth(k, growth).net


def is_growth(net, k, value):
    """Whether the value is a k-growth with this net."""
    check_net(net)
    check_half(k)
    nets = _nets_along(k, value)
    return len(nets) > 0 and nets[-1] == net


def _check_fold(net, least):
    """Refuse what is no net, and what is no number of ways to ask for."""
    check_net(net)
    if not is_integer(least) or not 0 <= least <= MAX_TIES:
        raise InvalidNumber(least)


def holds_all(net, least):
    """Whether all numbers are at least this one."""
    return weak_lot(net, least) is None


def weak_lot(net, least):
    """Any lot, neither empty nor of all places, with a lesser cut than this number, or None."""
    _check_fold(net, least)
    if len(net.places) == 1 or least_number(net) >= least:
        return None
    return least_lot(net)


def thinned(net, k):
    """The net that is left when as many ties as can be are taken off, and it stays 2k-fold."""
    check_net(net)
    check_half(k)
    numbers = all_numbers(net)
    for pair in numbers:
        if numbers[pair] < 2 * k:
            raise NoWay(pair)
    left = net
    for one, other in net.pairs:
        left = left.untied(one, other, _loose_ties(left, k, one, other))
    return left


def _loose_ties(net, k, one, other):
    """How many ties of two places a 2k-fold net can lose and stay so."""
    # Only the lots that part the two places lose by it, and each as much as there are ties taken off.
    return min(net.tied(one, other), all_numbers(net)[one, other] - 2 * k)


def is_thin(net, k):
    """Whether the net is 2k-fold, and no net with one tie less is."""
    check_net(net)
    check_half(k)
    return holds_all(net, 2 * k) and all([_loose_ties(net, k, one, other) == 0 for one, other in net.ties])


def growth_of(net, k):
    """Any k-growth with this net."""
    thin = thinned(net, k)
    ties = [("tie", one, other) for one, other in net.pairs
            for _ in range(net.tied(one, other) - thin.tied(one, other))]
    if len(thin.places) == 1:
        return (*thin.places, *ties)
    # In a thin net some place has just 2k ties. Led past whole it leaves a 2k-fold net, and a pinch takes that back.
    degrees = thin.degrees
    place = [tip for tip in degrees if degrees[tip] == 2 * k][0]
    pairs = whole_past(thin, place)
    left = steps_net(thin, place, pairs).without_place(place)
    return (*growth_of(left, k), ("pinch", place, pairs), *ties)


def growth_paper(net, k):
    """Any paper that shows a growth with this net, or a lot for which there is none."""
    check_net(net)
    check_half(k)
    if holds_all(net, 2 * k):
        return "growth", growth_of(net, k)
    return "lot", weak_lot(net, 2 * k)


def is_growth_paper(net, k, value):
    """Whether the value is such a paper."""
    check_net(net)
    check_half(k)
    if not isinstance(value, tuple) or len(value) != 2:
        return False
    if value[0] == "growth":
        return is_growth(net, k, value[1])
    return value[0] == "lot" and is_proper(net, value[1]) and net.cut(value[1]) < 2 * k


def _renamed_step(step, names):
    """A step with other words for places."""
    if step[0] == "tie":
        return "tie", names[step[1]], names[step[2]]
    return "pinch", names[step[1]], tuple([ordered(names[one], names[other]) for one, other in step[2]])


class Growth:
    """A k-growth. It never changes."""

    def __init__(self, k, growth):
        check_half(k)
        nets = _nets_along(k, growth)
        if len(nets) == 0:
            raise InvalidGrowth("there is no such growth")
        self._half = k
        self._first = growth[0]
        self._steps = growth[1:]
        self._nets = nets

    @property
    def half(self):
        """The k of the growth."""
        return self._half

    @property
    def first(self):
        """The first place."""
        return self._first

    @property
    def steps(self):
        """The steps."""
        return self._steps

    @property
    def nets(self):
        """The nets, from the one of the first place to the last one."""
        return self._nets

    @property
    def net(self):
        """The last net."""
        return self._nets[-1]

    @property
    def born(self):
        """The places, in the order in which they come."""
        return (self._first, *[step[1] for step in self._steps if step[0] == "pinch"])

    def net_at(self, index):
        """The net behind so many steps."""
        self._check_index(index)
        return self._nets[index]

    def upto(self, index):
        """The growth of so many steps."""
        self._check_index(index)
        return self._with(self._steps[:index])

    def with_tie(self, one, other):
        """The growth with a tie more."""
        return self._with((*self._steps, ("tie", one, other)))

    def with_pinch(self, place, pairs):
        """The growth with a pinch more."""
        return self._with((*self._steps, ("pinch", place, pairs)))

    def named(self, names):
        """The growth with other words for places."""
        if not are_names(self._nets[-1].places, names):
            raise InvalidOperation("names lead from just the places to different words")
        steps = [_renamed_step(step, names) for step in self._steps]
        return Growth(self._half, (names[self._first], *steps))

    def __len__(self):
        return len(self._steps)

    def __iter__(self):
        return iter(self._steps)

    def __contains__(self, value):
        return value in self._nets[-1].places

    def __eq__(self, other):
        return (isinstance(other, Growth) and self._half == other._half and self._first == other._first
                and self._steps == other._steps)

    def __str__(self):
        return f"{len(self._steps)} steps, {len(self._nets[-1].places) - 1} pinches"

    def _with(self, steps):
        """The growth from the same first place with other steps."""
        return Growth(self._half, (self._first, *steps))

    def _check_index(self, index):
        """Refuse what is no number of steps from the beginning."""
        if not is_integer(index) or not 0 <= index < len(self._nets):
            raise InvalidNumber(index)
