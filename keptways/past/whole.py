"""Steps by which ties are led past a place, one pair behind the other, until it has none."""

from keptways.base.nets import check_place, ordered
from keptways.errors import InvalidOperation, NoWay, TooMany
from keptways.past.pairs import keeping_pairs, led_past, numbers_beside, pairs_at
from keptways.ways.tight import check_beside
from keptways.ways.trees import all_numbers

MAX_NETS = 10000


def _behind(net, place, steps):
    """The net behind steps, or None if they are none."""
    if not isinstance(steps, tuple):
        return None
    behind = net
    for pair in steps:
        if pair not in pairs_at(behind, place):
            return None
        behind = led_past(behind, place, pair)
    return behind


def steps_net(net, place, steps):
    """The net behind steps."""
    check_beside(net, place)
    behind = _behind(net, place, steps)
    if behind is None:
        raise InvalidOperation("there are no such steps")
    return behind


def _are_numbers_kept(net, place, behind):
    """Whether all numbers beside a place are the same in the net behind."""
    return numbers_beside(net, place) == numbers_beside(behind, place)


def do_keep(net, place, steps):
    """Whether steps keep."""
    behind = steps_net(net, place, steps)
    return _are_numbers_kept(net, place, behind)


def _lone_ends(net, place):
    """The places with a tie to this one that alone joins the two."""
    numbers = all_numbers(net)
    return [other for other in net.near(place) if numbers[ordered(place, other)] == 1]


def is_ready(net, place):
    """Whether no tie of a place alone joins its ends."""
    check_beside(net, place)
    return len(_lone_ends(net, place)) == 0


def partners(net, place, other):
    """The ascending tuple of the places that make a pair that keeps with a tie of two places."""
    check_beside(net, place)
    check_place(net, other)
    if net.tied(place, other) == 0:
        raise InvalidOperation("the places are not tied")
    pairs = keeping_pairs(net, place)
    return tuple([near for near in net.near(place) if ordered(other, near) in pairs])


def _go_on(net, place):
    """Steps at a ready place that keep, and leave no tie, or three of an odd number."""
    least = 3 if net.degree(place) % 2 == 1 else 0
    behind = net
    steps = []
    while behind.degree(place) > least:
        # At a ready place there is always a pair that keeps, and it stays ready.
        pair = keeping_pairs(behind, place)[0]
        steps.append(pair)
        behind = led_past(behind, place, pair)
    return tuple(steps)


def gone_on(net, place, steps):
    """Any steps that begin with these, keep, and leave no tie, or three of an odd number."""
    behind = steps_net(net, place, steps)
    if not _are_numbers_kept(net, place, behind) or not is_ready(behind, place):
        raise InvalidOperation("the steps do not keep, or the place is not ready behind them")
    return (*steps, *_go_on(behind, place))


def whole_past(net, place):
    """Any steps by which a place is led past whole."""
    check_beside(net, place)
    if net.degree(place) % 2 == 1:
        # Each pair takes two ties off.
        raise NoWay(place)
    ahead = [(net, ())]
    met = {}
    while ahead:
        here, steps = ahead.pop()
        if is_ready(here, place):
            return (*steps, *_go_on(here, place))
        if here.lines not in met:
            met[here.lines] = True
            if len(met) > MAX_NETS:
                raise TooMany(MAX_NETS)
            ahead.extend(_tried(here, place, steps))
    raise NoWay(place)


def _tried(net, place, steps):
    """The nets, each with the steps to it, behind all pairs that keep with one tie that alone joins.

    This tie stands in some pair whenever the place is led past whole, and the
    net behind pairs does not hang on their order: so that pair can be the next.
    """
    other = _lone_ends(net, place)[0]
    pairs = [ordered(other, near) for near in partners(net, place, other)]
    return [(led_past(net, place, pair), (*steps, pair)) for pair in pairs]


def is_whole_past(net, place, value):
    """Whether the value is steps by which a place is led past whole."""
    check_beside(net, place)
    behind = _behind(net, place, value)
    return behind is not None and behind.degree(place) == 0 and _are_numbers_kept(net, place, behind)


def left_net(net, place):
    """The net that is left when a place is led past whole, without the place."""
    steps = whole_past(net, place)
    if len(net.places) == 1:
        raise InvalidOperation("no place would be left")
    return steps_net(net, place, steps).without_place(place)
