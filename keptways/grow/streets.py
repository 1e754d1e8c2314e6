"""Streets: ties of a net that are led along in one direction each."""

from keptways.base.lots import is_proper
from keptways.base.masks import all_cuts, all_sums, do_part, least_masks, lot_of, mask_of
from keptways.base.nets import check_lot, check_net, check_place, makes_lot, tally
from keptways.base.words import is_integer
from keptways.errors import InvalidOperation, InvalidStreets, InvalidWays
from keptways.grow.growth import Growth, check_half, growth_of, holds_all, weak_lot
from keptways.ways.flows import are_different, lead_from, ways_through


def _is_step(net, value):
    """Whether the value is a pair of two different places, in either order."""
    return (isinstance(value, tuple) and len(value) == 2 and value[0] in net and value[1] in net
            and value[0] != value[1])


def is_streets(net, value):
    """Whether the value is streets of the net."""
    check_net(net)
    return (isinstance(value, dict) and all([_is_step(net, step) for step in value])
            and all([is_integer(value[step]) and value[step] >= 1 for step in value])
            and all([value.get((one, other), 0) + value.get((other, one), 0) == net.tied(one, other)
                     for one, other in net.pairs]))


def check_streets(net, streets):
    """Refuse what is no net, and what is no streets of it."""
    if not is_streets(net, streets):
        raise InvalidStreets("there are no such streets of the net")


def spread_of(places, streets):
    """The dict from the places to how many more streets leave them than lead into them."""
    spread = {place: 0 for place in places}
    for one, other in streets:
        spread[one] = spread[one] + streets[one, other]
        spread[other] = spread[other] - streets[one, other]
    return spread


def all_leaving(net, streets):
    """The list of how many streets leave each lot, at the masks of the lots."""
    spread = spread_of(net.places, streets)
    more = all_sums([spread[place] for place in net.places])
    # What leaves a lot and what leads into it sum to its cut, and differ by what its places spread.
    return [(cut + many) // 2 for cut, many in zip(all_cuts(net), more)]


def least_leaving(leaving):
    """The least number of streets that leave a lot, neither empty nor of all places, or None."""
    return min(leaving[1:-1], default=None)


def _check_ends(net, streets, one, other):
    """Refuse what is no net, no streets of it, and no two different places."""
    check_streets(net, streets)
    check_place(net, one)
    check_place(net, other)
    if one == other:
        raise InvalidOperation("there is no way from a place to itself")


def _lot_left(net, streets, one, other):
    """The number of a lot with the first place and without the second one that fewest streets leave, and the lot."""
    leaving = all_leaving(net, streets)
    mask = least_masks(leaving, net.places.index(one), net.places.index(other))[0]
    return leaving[mask], lot_of(net, mask)


def one_way(net, streets, one, other):
    """The one-way number from one place to another one."""
    _check_ends(net, streets, one, other)
    many, _ = _lot_left(net, streets, one, other)
    return many


def one_way_paper(net, streets, one, other):
    """Any pair of ways apart along streets and of a lot that show the one-way number."""
    _check_ends(net, streets, one, other)
    room = {here: {there: streets.get((here, there), 0) for there in net.near(here)} for here in net.places}
    _, lot = _lot_left(net, streets, one, other)
    return ways_through(room, one, other), lot


def steps_along(way):
    """The steps of a way, in its order."""
    return list(zip(way, way[1:]))


def is_one_way_paper(net, streets, one, other, value):
    """Whether the value is such a pair."""
    _check_ends(net, streets, one, other)
    if not isinstance(value, tuple) or len(value) != 2:
        return False
    ways, lot = value
    if not lead_from(net, one, other, ways) or not makes_lot(net.places, lot) or one not in lot or other in lot:
        return False
    used = tally([step for way in ways for step in steps_along(way)])
    return (all([used[step] <= streets.get(step, 0) for step in used])
            and len(ways) == all_leaving(net, streets)[mask_of(net, lot)])


def _turn(streets, one, other, change):
    """Change the number of streets from one place to another one."""
    streets[one, other] = streets.get((one, other), 0) + change


def _put_between(streets, place, pair):
    """Lead a street between two places through a new one."""
    one, other = pair
    if one == other:
        start, end = one, one
    else:
        start, end = (one, other) if streets.get((one, other), 0) > 0 else (other, one)
        _turn(streets, start, end, -1)
    _turn(streets, start, place, 1)
    _turn(streets, place, end, 1)


def streets_along(k, growth):
    """The streets that come along a growth."""
    streets = {}
    for word, place, told in Growth(k, growth).steps:
        if word == "tie":
            _turn(streets, place, told, 1)
        else:
            for pair in told:
                _put_between(streets, place, pair)
    return {step: streets[step] for step in sorted(streets) if streets[step] > 0}


def streets_for(net, k):
    """Any streets all whose one-way numbers are at least k."""
    return streets_along(k, growth_of(net, k))


def streets_paper(net, k):
    """Any paper that shows streets whose one-way numbers are at least k, or a lot for which there are none."""
    check_net(net)
    check_half(k)
    if holds_all(net, 2 * k):
        return "streets", streets_for(net, k)
    return "lot", weak_lot(net, 2 * k)


def is_streets_paper(net, k, value):
    """Whether the value is such a paper."""
    check_net(net)
    check_half(k)
    if not isinstance(value, tuple) or len(value) != 2:
        return False
    if value[0] == "streets":
        return is_streets(net, value[1]) and all([many >= k for many in all_leaving(net, value[1])[1:-1]])
    return value[0] == "lot" and is_proper(net, value[1]) and net.cut(value[1]) < 2 * k


class Streets:
    """Streets of a net. They never change."""

    def __init__(self, net, streets):
        check_streets(net, streets)
        self._net = net
        self._steps = tuple(sorted(streets))
        self._arrows = {step: streets[step] for step in self._steps}
        self._leaving = all_leaving(net, streets)
        self._least = least_leaving(self._leaving)

    @property
    def net(self):
        """The net."""
        return self._net

    @property
    def arrows(self):
        """The dict from the steps to the numbers of streets."""
        return {step: self._arrows[step] for step in self._steps}

    @property
    def least(self):
        """The least of all one-way numbers, or None for a net of one place."""
        return self._least

    def leaving(self, lot):
        """How many streets leave a lot."""
        check_lot(self._net, lot)
        return self._leaving[mask_of(self._net, lot)]

    def coming(self, lot):
        """How many streets lead into a lot."""
        return self._net.cut(lot) - self.leaving(lot)

    def from_to(self, one, other):
        """The one-way number from one place to another one."""
        return one_way(self._net, self._arrows, one, other)

    def spread(self):
        """The dict from the places to how many more streets leave them than lead into them."""
        return spread_of(self._net.places, self._arrows)

    def turned(self):
        """All streets the other way round."""
        return Streets(self._net, {(other, one): self._arrows[one, other] for one, other in self._steps})

    def turned_at(self, one, other):
        """The streets with one from the first to the second place the other way round."""
        check_place(self._net, one)
        check_place(self._net, other)
        if (one, other) not in self._steps:
            raise InvalidOperation("there is no such street")
        return self._with_turned([(one, other)])

    def turned_along(self, way):
        """The streets with one the other way round for each step of a way along streets."""
        if not are_different(self._net, way) or not all([step in self._steps for step in steps_along(way)]):
            raise InvalidWays("there is no such way along streets")
        return self._with_turned(steps_along(way))

    def rounds(self):
        """The ascending tuple of the lots of places that can be come to from each other."""
        # One place can't be come to from another one if no street leaves some lot that has only the second one.
        closed = [mask for mask, many in enumerate(self._leaving) if many == 0]
        return tuple(sorted({tuple([other for other in self._net.places if self._is_in_round(closed, place, other)])
                             for place in self._net.places}))

    def __contains__(self, value):
        return value in self._steps

    def __len__(self):
        return len(self._steps)

    def __iter__(self):
        return iter(self._steps)

    def __eq__(self, other):
        return isinstance(other, Streets) and self._net == other._net and self._arrows == other._arrows

    def __str__(self):
        return f"{self._net.size} streets, {0 if self._least is None else self._least} from each to each"

    def _is_in_round(self, closed, place, other):
        """Whether none of the lots with these masks parts two places, which can be the same."""
        ends = mask_of(self._net, (place, other))
        return not any([do_part(mask, ends) for mask in closed])

    def _with_turned(self, steps):
        """The streets with one the other way round for each of these different steps."""
        streets = self.arrows
        for one, other in steps:
            _turn(streets, one, other, -1)
            _turn(streets, other, one, 1)
        return Streets(self._net, {step: streets[step] for step in streets if streets[step] > 0})
