"""Lots of a net: their corners, their cuts, and tuples of lots."""

from keptways.base.masks import all_cuts, do_masks_cross, lots_of, mask_of
from keptways.base.nets import check_lot, check_net, makes_lot
from keptways.base.words import ascends, is_integer
from keptways.errors import InvalidNumber, InvalidOperation, InvalidRow


def is_lot(net, value):
    """Whether the value is a lot of the net."""
    check_net(net)
    return makes_lot(net.places, value)


def opposite(net, lot):
    """The lot of all other places."""
    check_net(net)
    check_lot(net, lot)
    return outside(net.places, lot)


def outside(places, lot):
    """Those of the places that are not in a lot."""
    return tuple([place for place in places if place not in lot])


def inside(places, lot):
    """Those of the places that are in a lot."""
    return tuple([place for place in places if place in lot])


def lots(net):
    """All lots but the empty one and that of all places, in ascending order."""
    check_net(net)
    for lot in _proper_lots(net):
        yield lot


def _proper_lots(net):
    """The tuple of what `lots` yields."""
    return lots_of(net, list(range(1, (1 << len(net.places)) - 1)))


def is_proper(net, value):
    """Whether the value is a lot that is neither empty nor has all places."""
    return makes_lot(net.places, value) and 0 < len(value) < len(net.places)


def _check_two(net, one, other):
    """Refuse what is no net, and what are no lots of it."""
    check_net(net)
    check_lot(net, one)
    check_lot(net, other)


def corners(net, one, other):
    """The places of both lots, those of each one alone, and those of neither."""
    _check_two(net, one, other)
    return (inside(one, other), outside(one, other), outside(other, one),
            outside(outside(net.places, one), other))


def do_cross(net, one, other):
    """Whether no corner of the lots is empty."""
    _check_two(net, one, other)
    return do_masks_cross(mask_of(net, one), mask_of(net, other), mask_of(net, net.places))


def _ties_between(net, one, other):
    """The number of ties between two lots without a common place."""
    return sum([net.tied(here, there) for here in one for there in other])


def between(net, one, other):
    """The number of ties between places of a lot and places of another one."""
    _check_two(net, one, other)
    if inside(one, other):
        raise InvalidOperation("some place is in both lots")
    return _ties_between(net, one, other)


def excesses(net, one, other):
    """How far the cuts of two lots exceed those of their corners, in both ways of pairing these."""
    both, first, second, neither = corners(net, one, other)
    return 2 * _ties_between(net, first, second), 2 * _ties_between(net, both, neither)


def _are_proper(net, value):
    """Whether the value is an ascending tuple of lots, none of them empty or of all places."""
    return isinstance(value, tuple) and all([is_proper(net, lot) for lot in value]) and ascends(value)


def is_row(net, value):
    """Whether the value is a row of lots: no two of them have a common place."""
    check_net(net)
    if not _are_proper(net, value):
        return False
    # A place that stands in two lots would be counted once only on the right side.
    return sum([len(lot) for lot in value]) == len({place for lot in value for place in lot})


def is_nested(net, value):
    """Whether the value is a tuple of lots of which no two cross, and no two are opposite."""
    check_net(net)
    if not _are_proper(net, value):
        return False
    full = mask_of(net, net.places)
    masks = [mask_of(net, lot) for lot in value]
    return not any([do_masks_cross(one, other, full) or one ^ other == full for one in masks for other in masks])


def merged_row(net, row):
    """The net in which each lot of a row is one place, named by its least place."""
    check_net(net)
    if not is_row(net, row):
        raise InvalidRow("there is no such row of lots")
    merged = net
    for lot in row:
        merged = merged.merged(lot, lot[0])
    return merged


def weakest(net):
    """The least cut of all lots, and the lots with it that do not have the greatest place."""
    check_net(net)
    if len(net.places) == 1:
        raise InvalidOperation("one place is not parted by a lot")
    cuts = all_cuts(net)
    half = range(1, len(cuts) // 2)
    least = min([cuts[mask] for mask in half])
    return least, lots_of(net, [mask for mask in half if cuts[mask] == least])


def lifted(net, lot, most):
    """Whether the cut of each part of a lot, but the empty one, is at least this number."""
    check_net(net)
    check_lot(net, lot)
    if not is_integer(most) or most < 0:
        raise InvalidNumber(most)
    cuts = all_cuts(net)
    whole = mask_of(net, lot)
    return all([cuts[mask] >= most for mask in range(1, len(cuts)) if mask | whole == whole])
