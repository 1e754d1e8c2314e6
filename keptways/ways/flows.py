"""Numbers of two places, and the families and lots that show them."""

from keptways.base.masks import all_cuts, common_mask, joint_mask, least_masks, lot_of, lots_of
from keptways.base.nets import check_net, check_place, makes_lot, ordered, tally
from keptways.base.words import is_integer
from keptways.errors import InvalidNumber, InvalidOperation, NoWay, UnknownPlace


def check_ends(net, one, other):
    """Refuse what is no net, and what are no two different places of it."""
    check_net(net)
    check_place(net, one)
    check_place(net, other)
    if one == other:
        raise UnknownPlace(other)


def _least_masks(net, one, other):
    """The masks of the least lots of two places."""
    return least_masks(all_cuts(net), net.places.index(one), net.places.index(other))


def number(net, one, other):
    """The number of two places."""
    lot = nearest_lot(net, one, other)
    return net.cut(lot)


def nearest_lot(net, one, other):
    """The least lot that lies in each least lot."""
    check_ends(net, one, other)
    return lot_of(net, common_mask(_least_masks(net, one, other)))


def farthest_lot(net, one, other):
    """The least lot in which each least lot lies."""
    check_ends(net, one, other)
    return lot_of(net, joint_mask(_least_masks(net, one, other)))


def least_lots(net, one, other):
    """The ascending tuple of all least lots."""
    check_ends(net, one, other)
    return lots_of(net, _least_masks(net, one, other))


def pairs_along(way):
    """The pairs of the neighbours in a way, in its order."""
    return [ordered(here, there) for here, there in zip(way, way[1:])]


def _shortest_way(room, one, other):
    """A shortest way from one place to another one along steps with room, or None."""
    ways = {one: (one,)}
    ahead = [one]
    while ahead and other not in ways:
        here = ahead.pop(0)
        for there in room[here]:
            if room[here][there] > 0 and there not in ways:
                ways[there] = (*ways[here], there)
                ahead.append(there)
    return ways.get(other)


def _room_left(room, one, other):
    """What is left of the room for steps behind as many ways as can be."""
    left = {here: {there: room[here][there] for there in room[here]} for here in room}
    way = _shortest_way(left, one, other)
    while way is not None:
        for here, there in zip(way, way[1:]):
            left[here][there] = left[here][there] - 1
            # A step back takes a step of an earlier way off.
            left[there][here] = left[there][here] + 1
        way = _shortest_way(left, one, other)
    return left


def ways_through(room, one, other):
    """As many ways as can be that together step from here to there at most `room[here][there]` times.

    Where there is room for a step, `room` tells that of the step back, too, be it 0.
    """
    left = _room_left(room, one, other)
    steps = {here: {there: room[here][there] - left[here][there] for there in room[here]} for here in room}
    found = []
    way = _shortest_way(steps, one, other)
    while way is not None:
        found.append(way)
        for here, there in zip(way, way[1:]):
            steps[here][there] = steps[here][there] - 1
        way = _shortest_way(steps, one, other)
    return tuple(found)


def family(net, one, other):
    """Any family of two places with as many ways as their number."""
    check_ends(net, one, other)
    return ways_through({place: net[place] for place in net.places}, one, other)


def are_different(net, value):
    """Whether the value is a tuple of two or more different places."""
    return (isinstance(value, tuple) and len(value) >= 2 and all([place in net for place in value])
            and len(set(value)) == len(value))


def lead_from(net, one, other, value):
    """Whether the value is a tuple of tuples of different places, each from one place to another one."""
    return (isinstance(value, tuple) and all([are_different(net, way) for way in value])
            and all([way[0] == one and way[-1] == other for way in value]))


def is_family(net, one, other, value):
    """Whether the value is a family of two places, with any number of ways."""
    check_ends(net, one, other)
    if not lead_from(net, one, other, value):
        return False
    used = tally([pair for way in value for pair in pairs_along(way)])
    return all([used[here, there] <= net.tied(here, there) for here, there in used])


def number_paper(net, one, other):
    """Any pair of a family and of a lot that show the number of two places."""
    return family(net, one, other), nearest_lot(net, one, other)


def is_number_paper(net, one, other, value):
    """Whether the value is such a pair."""
    check_ends(net, one, other)
    if not isinstance(value, tuple) or len(value) != 2:
        return False
    ways, lot = value
    return (is_family(net, one, other, ways) and makes_lot(net.places, lot) and one in lot and other not in lot
            and net.cut(lot) == len(ways))


def most_apart(net, one, other, many):
    """Any family of two places with just so many ways."""
    check_ends(net, one, other)
    if not is_integer(many) or many < 0:
        raise InvalidNumber(many)
    ways = family(net, one, other)
    if many > len(ways):
        raise NoWay(many)
    return ways[:many]


class Ways:
    """What is between two places. It never changes."""

    def __init__(self, net, one, other):
        check_ends(net, one, other)
        self._net = net
        self._tips = (one, other)
        self._shown = family(net, one, other)
        self._least = least_lots(net, one, other)
        self._nearest = nearest_lot(net, one, other)
        self._farthest = farthest_lot(net, one, other)

    @property
    def net(self):
        """The net."""
        return self._net

    @property
    def tips(self):
        """The pair of the places."""
        return self._tips

    @property
    def total(self):
        """The number of the places."""
        return len(self._shown)

    @property
    def shown(self):
        """A family with as many ways as the number."""
        return self._shown

    @property
    def nearest(self):
        """The nearest least lot."""
        return self._nearest

    @property
    def farthest(self):
        """The farthest least lot."""
        return self._farthest

    def turned(self):
        """What is between the places, from the second one to the first one."""
        one, other = self._tips
        return Ways(self._net, other, one)

    def behind(self, one, other):
        """What is between the places in the net with one tie less."""
        if self._net.tied(one, other) == 0:
            raise InvalidOperation("there is no tie to take off")
        start, end = self._tips
        return Ways(self._net.untied(one, other), start, end)

    def uses(self, one, other):
        """How many of the shown ways have these two places as neighbours."""
        check_place(self._net, one)
        check_place(self._net, other)
        return len([way for way in self._shown if ordered(one, other) in pairs_along(way)])

    def is_needed(self, one, other):
        """Whether with one tie less between two places the number would be less."""
        # The number falls just where a least lot loses a tie.
        return self._net.tied(one, other) > 0 and any([(one in lot) != (other in lot) for lot in self._least])

    def __contains__(self, value):
        return value in self._least

    def __len__(self):
        return len(self._shown)

    def __iter__(self):
        return iter(self._shown)

    def __eq__(self, other):
        return isinstance(other, Ways) and self._net == other._net and self._tips == other._tips

    def __str__(self):
        return f"{self._tips[0]} to {self._tips[1]}, {len(self._shown)} ways"
