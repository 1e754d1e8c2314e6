"""Needs of lots, and the lots whose cuts are hardly more than their needs."""

from keptways.base.lots import inside, outside
from keptways.base.masks import all_cuts, all_needs, lots_of, mask_of, numbers_of
from keptways.base.nets import Net, check_lot, check_net, check_place, makes_lot
from keptways.errors import InvalidLot, InvalidNet, UnknownPlace


def other_numbers(net, place):
    """The dict from the pairs of the places other than this one to their numbers."""
    numbers = numbers_of(net)
    return {pair: numbers[pair] for pair in numbers if place not in pair}


def _greatest_parted(numbers, lot):
    """The greatest number of a pair that a lot parts, or 0."""
    return max([numbers[one, other] for one, other in numbers if (one in lot) != (other in lot)], default=0)


def need(net, lot):
    """The greatest number of a place in a lot with one outside of it."""
    check_net(net)
    check_lot(net, lot)
    return _greatest_parted(numbers_of(net), lot)


def check_beside(net, place):
    """Refuse what is no net, and what is no place of it."""
    check_net(net)
    check_place(net, place)


def _check_lot_beside(net, place, lot):
    """Refuse what is no lot of the net without the place."""
    if not makes_lot(outside(net.places, (place,)), lot):
        raise InvalidLot("there is no such lot beside the place")


def need_beside(net, place, lot):
    """The need of a lot over the places other than this one."""
    check_beside(net, place)
    _check_lot_beside(net, place, lot)
    return _greatest_parted(other_numbers(net, place), lot)


def spare(net, place, lot):
    """How much the cut of a lot is more than its need beside a place."""
    told = need_beside(net, place, lot)
    return net.cut(lot) - told


def _lots_with_spare(net, place, most):
    """The lots beside a place, but the empty one and that of all others, with at most this spare."""
    cuts = all_cuts(net)
    needs = all_needs(net, other_numbers(net, place))
    own = mask_of(net, (place,))
    rest = len(cuts) - 1 - own
    return lots_of(net, [mask for mask in range(1, len(cuts))
                         if mask & own == 0 and mask != rest and cuts[mask] - needs[mask] <= most])


def tight_lots(net, place):
    """The ascending tuple of the tight lots beside a place."""
    check_beside(net, place)
    return _lots_with_spare(net, place, 0)


def narrow_lots(net, place):
    """The ascending tuple of the narrow lots beside a place."""
    check_beside(net, place)
    return _lots_with_spare(net, place, 1)


def barring_lot(net, place, one, other):
    """Any greatest narrow lot beside a place that has both places, or None."""
    check_beside(net, place)
    for tip in (one, other):
        check_place(net, tip)
        if tip == place:
            raise UnknownPlace(tip)
    barring = [lot for lot in narrow_lots(net, place) if one in lot and other in lot]
    # What has most places lies in no greater one.
    return max(barring, key=len) if barring else None


def _joined_lot(net, one, other):
    """What two lots have together."""
    return tuple([place for place in net.places if place in one or place in other])


def side_by_side(net, place, lot, other):
    """Whether the needs of two lots add up to at most those of meet and join, or to those of the rests."""
    check_beside(net, place)
    _check_lot_beside(net, place, lot)
    _check_lot_beside(net, place, other)
    numbers = other_numbers(net, place)
    told = _greatest_parted(numbers, lot) + _greatest_parted(numbers, other)
    meet, join = inside(lot, other), _joined_lot(net, lot, other)
    return "meet" if told <= _greatest_parted(numbers, meet) + _greatest_parted(numbers, join) else "rests"


def _has_no_spare(net, place, lot):
    """Whether the value is a lot beside a place with no spare."""
    return makes_lot(outside(net.places, (place,)), lot) and spare(net, place, lot) == 0


def _crossing_lots(told):
    """The first two of the told lots that have something in common, but do not lie in one another; or None."""
    for one in told:
        for other in told:
            if inside(one, other) not in ((), one, other):
                return one, other
    return None


def _parted_lots(net, place, one, other):
    """Tight lots that do not cross, with the places of two tight lots that do."""
    joined = _joined_lot(net, one, other)
    if spare(net, place, joined) == 0:
        return [joined]
    # Then both rests are tight. What the lots have in common stays in the first one.
    return [one, outside(other, one)]


def uncrossed(net, place, lots):
    """Tight lots with the places of these ones, of which no two cross."""
    check_beside(net, place)
    if not isinstance(lots, tuple) or not all([_has_no_spare(net, place, lot) for lot in lots]):
        raise InvalidLot("a lot is none, or has a spare")
    left = sorted({lot for lot in lots if len(lot) > 0})
    crossing = _crossing_lots(left)
    while crossing is not None:
        one, other = crossing
        others = [lot for lot in left if lot not in crossing]
        left = sorted({lot for lot in [*others, *_parted_lots(net, place, one, other)]})
        crossing = _crossing_lots(left)
    return tuple(left)


class Needs:
    """The needs beside a place. They never change."""

    def __init__(self, net, place):
        check_beside(net, place)
        self._net = net
        self._place = place
        self._numbers = other_numbers(net, place)
        self._tight = tight_lots(net, place)
        self._narrow = narrow_lots(net, place)

    @property
    def net(self):
        """The net."""
        return self._net

    @property
    def place(self):
        """The place."""
        return self._place

    @property
    def numbers(self):
        """The dict from the pairs of the other places to their numbers."""
        return {pair: self._numbers[pair] for pair in self._numbers}

    @property
    def tight(self):
        """The tight lots beside the place."""
        return self._tight

    @property
    def narrow(self):
        """The narrow lots beside the place."""
        return self._narrow

    def of(self, lot):
        """The need of a lot beside the place."""
        _check_lot_beside(self._net, self._place, lot)
        return _greatest_parted(self._numbers, lot)

    def spare_of(self, lot):
        """The spare of a lot beside the place."""
        told = self.of(lot)
        return self._net.cut(lot) - told

    def kept_by(self, net):
        """Whether in another net all numbers of the other places are at least as great."""
        if not isinstance(net, Net) or not all([other in net for other in self._net.places if other != self._place]):
            raise InvalidNet("there is no net with the other places")
        numbers = numbers_of(net)
        return all([numbers[pair] >= self._numbers[pair] for pair in self._numbers])

    def __contains__(self, value):
        return value in self._tight

    def __len__(self):
        return len(self._tight)

    def __eq__(self, other):
        return isinstance(other, Needs) and self._net == other._net and self._place == other._place

    def __str__(self):
        return f"beside {self._place}: {len(self._tight)} tight lots, {len(self._narrow)} narrow"
