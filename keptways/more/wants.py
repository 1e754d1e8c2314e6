"""Wants of its own for each pair of places, and the fewest new ties behind which they are met."""

from keptways.base.lots import is_proper, is_row
from keptways.base.masks import all_cuts, all_needs, best_parts, fewest_sum, lots_of, mask_of, numbers_of
from keptways.base.nets import Net, check_net, ordered
from keptways.base.words import is_integer
from keptways.errors import InvalidLot, InvalidNet, InvalidNumber, InvalidOperation, InvalidRow
from keptways.more.rows import behind_new, check_ends_of, counts_of, ends_in_turn, half_up, is_new_ties, is_order
from keptways.more.rows import lots_below, new_ties_of, row_within
from keptways.more.ties import with_even_sum
from keptways.ways.flows import check_ends

MAX_WANT = 9

_LEAST_WANT = 2


def _is_want(value):
    """Whether the value is an integer that can be wanted of a pair."""
    return is_integer(value) and _LEAST_WANT <= value <= MAX_WANT


def is_wants(net, value):
    """Whether the value is wants of the net."""
    check_net(net)
    return (isinstance(value, dict) and len(value) == len(net.pairs) and all([pair in value for pair in net.pairs])
            and all([_is_want(value[pair]) for pair in value]))


def _check_wants(net, wants):
    """Refuse what is no net, and what is no wants of it."""
    if not is_wants(net, wants):
        raise InvalidRow("there are no such wants of the net")


def _all_shorts(net, wants):
    """The list of by how much all lots fall short, at their masks; 0 for the empty one and that of all places."""
    return [max(0, want - cut) for want, cut in zip(all_needs(net, wants), all_cuts(net))]


def _check_counting(net, lot):
    """Refuse what is no lot, is empty or has all places."""
    if not is_proper(net, lot):
        raise InvalidLot("there is no such lot, or it parts no places")


def wanted_cut(net, wants, lot):
    """The greatest want of a pair of which a lot has one place alone."""
    _check_wants(net, wants)
    _check_counting(net, lot)
    return all_needs(net, wants)[mask_of(net, lot)]


def short_by(net, wants, lot):
    """By how much a lot falls short."""
    return max(0, wanted_cut(net, wants, lot) - net.cut(lot))


def are_met(net, wants):
    """Whether wants are met."""
    return first_unmet(net, wants) is None


def first_unmet(net, wants):
    """The first pair whose number is less than its want, or None."""
    _check_wants(net, wants)
    met = _met_pairs(net, wants)
    unmet = [pair for pair in net.pairs if pair not in met]
    return unmet[0] if len(unmet) > 0 else None


def _met_pairs(net, wants):
    """The ascending tuple of the pairs whose wants are met."""
    numbers = numbers_of(net)
    return tuple([pair for pair in numbers if numbers[pair] >= wants[pair]])


def _unserved_lots(net, wants, ends):
    """The ascending tuple of the lots that have fewer ends than they fall short."""
    _check_wants(net, wants)
    check_ends_of(net, ends)
    return lots_below(net, _all_shorts(net, wants), ends)


def do_serve(net, wants, ends):
    """Whether ends serve wants."""
    return len(_unserved_lots(net, wants, ends)) == 0


def serving_ends(net, wants, order):
    """The ends that serve wants, as few as can be at one place behind the other in an order."""
    _check_wants(net, wants)
    if not is_order(net, order):
        raise InvalidOperation("there is no such order of all places")
    return ends_in_turn(net, _all_shorts(net, wants), MAX_WANT, order)


def fewest_for(net, wants):
    """The fewest new ties behind which wants are met."""
    _check_wants(net, wants)
    return half_up(fewest_sum(_all_shorts(net, wants), MAX_WANT))


def _new_ties_for(net, wants, ends):
    """New ties with just these ends, which serve, behind which wants are met."""
    return new_ties_of(net, all_needs(net, wants), ends)


def _meets(net, wants, new_ties):
    """Whether the value is new ties behind which wants are met, in a net with at most sixty ties."""
    if not is_new_ties(net, new_ties):
        return False
    behind = behind_new(net, new_ties)
    return behind is not None and are_met(behind, wants)


def wants_paper(net, wants):
    """Any pair of new ties behind which wants are met, and of a row of lots that shows that they are the fewest."""
    _check_wants(net, wants)
    ends = with_even_sum(serving_ends(net, wants, net.places), net.places[0])
    return _new_ties_for(net, wants, ends), row_within(net, best_parts(_all_shorts(net, wants)), net.places)


def is_wants_paper(net, wants, value):
    """Whether the value is such a pair."""
    _check_wants(net, wants)
    if not isinstance(value, tuple) or len(value) != 2 or not is_row(net, value[1]):
        return False
    new_ties, row = value
    return (_meets(net, wants, new_ties)
            and len(new_ties) == half_up(sum([short_by(net, wants, lot) for lot in row])))


def wants_ends_paper(net, wants, ends):
    """Any paper that shows new ties with just these ends behind which wants are met, or why there are none."""
    unserved = _unserved_lots(net, wants, ends)
    if len(unserved) > 0:
        return "lacks", unserved[0]
    if sum(ends.values()) % 2 == 1:
        return ("odd",)
    return "met", _new_ties_for(net, wants, ends)


def is_wants_ends_paper(net, wants, ends, value):
    """Whether the value is such a paper."""
    unserved = _unserved_lots(net, wants, ends)
    if value == ("odd",):
        return sum(ends.values()) % 2 == 1
    if not isinstance(value, tuple) or len(value) != 2:
        return False
    if value[0] == "met":
        return _meets(net, wants, value[1]) and counts_of(net, value[1]) == ends
    return value[0] == "lacks" and value[1] in unserved


class Wants:
    """Wants with their net. They never change."""

    def __init__(self, net, wants):
        _check_wants(net, wants)
        self._net = net
        self._pairs = net.pairs
        self._table = {pair: wants[pair] for pair in net.pairs}
        self._fewest = fewest_for(net, wants)
        shorts = _all_shorts(net, wants)
        self._short = lots_of(net, [mask for mask in range(len(shorts)) if shorts[mask] > 0])
        self._met = _met_pairs(net, wants)

    @property
    def net(self):
        """The net."""
        return self._net

    @property
    def table(self):
        """The dict from the pairs to their wants."""
        return {pair: self._table[pair] for pair in self._pairs}

    @property
    def fewest(self):
        """The fewest new ties behind which the wants are met."""
        return self._fewest

    @property
    def short(self):
        """The ascending tuple of the lots that fall short."""
        return self._short

    def with_want(self, one, other, many):
        """The wants with another one of two places."""
        check_ends(self._net, one, other)
        if not _is_want(many):
            raise InvalidNumber(many)
        pair = ordered(one, other)
        return self._with({tips: many if tips == pair else self._table[tips] for tips in self._pairs})

    def lowered(self):
        """The lesser one of each want and of the number of its pair, at least 2."""
        numbers = numbers_of(self._net)
        return self._with({pair: max(_LEAST_WANT, min(self._table[pair], numbers[pair])) for pair in self._pairs})

    def for_net(self, net):
        """The same wants of another net with the same places."""
        if not isinstance(net, Net) or net.places != self._net.places:
            raise InvalidNet("there is no net with the same places")
        return Wants(net, self._table)

    def greater(self, other):
        """The greater want of each pair in these and in other ones."""
        self._check_other(other)
        return self._with({pair: max(self._table[pair], other._table[pair]) for pair in self._pairs})

    def lesser(self, other):
        """The lesser want of each pair in these and in other ones."""
        self._check_other(other)
        return self._with({pair: min(self._table[pair], other._table[pair]) for pair in self._pairs})

    def __contains__(self, value):
        return value in self._met

    def __len__(self):
        return len(self._pairs)

    def __iter__(self):
        return iter(self._pairs)

    def __eq__(self, other):
        return isinstance(other, Wants) and self._net == other._net and self._table == other._table

    def __str__(self):
        return f"{len(self._pairs)} wants, {self._fewest} new ties"

    def _with(self, table):
        """Other wants of the same net."""
        return Wants(self._net, table)

    def _check_other(self, other):
        """Refuse what is no wants of an equal net."""
        if not isinstance(other, Wants) or self._net != other._net:
            raise InvalidOperation("there are no other wants of the net")
