"""Ends of new ties: which of them suffice, and the fewest of them, shown by rows of lots."""

from keptways.base.lots import is_proper, is_row
from keptways.base.masks import all_cuts, all_sums, best_parts, fewest_counts, fewest_sum, lots_of, mask_of
from keptways.base.masks import new_pairs, row_masks
from keptways.base.nets import MAX_TIES, Net, check_lot, check_net, tally
from keptways.base.words import is_integer
from keptways.errors import InvalidNet, InvalidNumber, InvalidOperation, InvalidRow
from keptways.grow.growth import holds_all

MAX_FOLD = 9
MAX_ENDS = 60


def check_fold(net, fold):
    """Refuse what is no net, and what is no number of ways that is asked for."""
    check_net(net)
    if not is_integer(fold) or not 2 <= fold <= MAX_FOLD:
        raise InvalidNumber(fold)


def are_counts(net, value, most):
    """Whether the value is a dict from just the places of a net to integers from 0 to the greatest one."""
    return (isinstance(value, dict) and len(value) == len(net.places) and all([place in value for place in net.places])
            and all([is_integer(value[place]) and 0 <= value[place] <= most for place in value]))


def is_ends(net, value):
    """Whether the value is ends of the net."""
    check_net(net)
    return are_counts(net, value, MAX_ENDS)


def check_ends_of(net, ends):
    """Refuse what is no net, and what is no ends of it."""
    if not is_ends(net, ends):
        raise InvalidRow("there are no such ends of the net")


def is_new_ties(net, value):
    """Whether the value is new ties of the net."""
    check_net(net)
    return (isinstance(value, tuple) and all([_is_new_tie(net, pair) for pair in value])
            and all([one <= other for one, other in zip(value, value[1:])]))


def _is_new_tie(net, value):
    """Whether the value is a pair of places in order, which can be the same."""
    return (isinstance(value, tuple) and len(value) == 2 and value[0] in net and value[1] in net
            and value[0] <= value[1])


def _lack_below(fold, cut):
    """How much a cut is less than the number of ways that is asked for."""
    return max(0, fold - cut)


def lack(net, fold, lot):
    """The lack of a lot."""
    check_fold(net, fold)
    check_lot(net, lot)
    return _lack_below(fold, net.cut(lot))


def all_lacks(net, fold):
    """The list of the lacks of all lots that count, at their masks, and of 0 for the two others."""
    return [0, *[_lack_below(fold, cut) for cut in all_cuts(net)[1:-1]], 0]


def greatest_lacks(net, fold):
    """The ascending tuple of the lots that count and have the greatest lack."""
    check_fold(net, fold)
    lacks = all_lacks(net, fold)
    return lots_of(net, [mask for mask in range(1, len(lacks) - 1) if lacks[mask] == max(lacks)])


def lots_below(net, lacks, ends):
    """The ascending tuple of the lots that have fewer ends than they lack."""
    sums = all_sums([ends[place] for place in net.places])
    return lots_of(net, [mask for mask in range(len(lacks)) if sums[mask] < lacks[mask]])


def lacking_lots(net, fold, ends):
    """The ascending tuple of the lots that count and have fewer ends than their lacks."""
    check_fold(net, fold)
    check_ends_of(net, ends)
    return lots_below(net, all_lacks(net, fold), ends)


def does_suffice(net, fold, ends):
    """Whether ends suffice."""
    return len(lacking_lots(net, fold, ends)) == 0


def new_ties_of(net, leasts, ends):
    """New ties with just these ends, behind which each lot has at least its least cut, told at its mask.

    The ends, of which there is an even number, are enough for each lot. Refused
    are new ties with which there would be more than sixty ties.
    """
    counts = [ends[place] for place in net.places]
    spares = [cut + more - least for cut, more, least in zip(all_cuts(net), all_sums(counts), leasts)]
    told = [(net.places[one], net.places[other]) for one, other in new_pairs(spares, counts)]
    new_ties = tuple(sorted(told))
    if behind_new(net, new_ties) is None:
        raise InvalidNet("there would be more than sixty ties")
    return new_ties


def met_ties(net, fold, ends):
    """New ties that meet ends."""
    return new_ties_of(net, [fold for _ in all_cuts(net)], ends)


def behind_new(net, new_ties):
    """The net with new ties, or None if there would be more than sixty ties."""
    more = tally([pair for pair in new_ties if pair[0] != pair[1]])
    if net.size + sum(more.values()) > MAX_TIES:
        return None
    return net + Net(net.places, more)


def makes_fold(net, fold, new_ties):
    """Whether the value is new ties behind which the net is k-fold."""
    if not is_new_ties(net, new_ties):
        return False
    behind = behind_new(net, new_ties)
    return behind is not None and holds_all(behind, fold)


def counts_of(net, new_ties):
    """How often each place stands in new ties."""
    tips = [tip for pair in new_ties for tip in pair]
    return {place: tips.count(place) for place in net.places}


def ends_paper(net, fold, ends):
    """Any ends paper."""
    lacking = lacking_lots(net, fold, ends)
    if len(lacking) > 0:
        return "lacks", lacking[0]
    if sum(ends.values()) % 2 == 1:
        return ("odd",)
    return "met", met_ties(net, fold, ends)


def is_ends_paper(net, fold, ends, value):
    """Whether the value is an ends paper."""
    check_fold(net, fold)
    check_ends_of(net, ends)
    if value == ("odd",):
        return sum(ends.values()) % 2 == 1
    if not isinstance(value, tuple) or len(value) != 2:
        return False
    if value[0] == "met":
        return makes_fold(net, fold, value[1]) and counts_of(net, value[1]) == ends
    return (value[0] == "lacks" and is_proper(net, value[1])
            and sum([ends[place] for place in value[1]]) < lack(net, fold, value[1]))


def _check_new_ties(net, new_ties):
    """Refuse what is no net, and what is no new ties of it."""
    if not is_new_ties(net, new_ties):
        raise InvalidOperation("there are no such new ties")


def ends_of(net, new_ties):
    """The ends of new ties."""
    _check_new_ties(net, new_ties)
    ends = counts_of(net, new_ties)
    check_ends_of(net, ends)
    return ends


def with_new(net, new_ties):
    """The net with new ties."""
    _check_new_ties(net, new_ties)
    behind = behind_new(net, new_ties)
    if behind is None:
        raise InvalidNet("there would be more than sixty ties")
    return behind


def is_order(net, value):
    """Whether the value is a tuple of all places of a net, each once."""
    return (isinstance(value, tuple) and len(value) == len(net.places)
            and all([place in value for place in net.places]))


def ends_in_turn(net, lacks, most, order):
    """The dict of as few ends for each place in turn as are let."""
    counts = fewest_counts(lacks, most, [net.places.index(place) for place in order])
    return {place: many for place, many in zip(net.places, counts)}


def least_ends(net, fold, order):
    """The ends that come of giving each place in turn as few as are let."""
    check_fold(net, fold)
    if not is_order(net, order):
        raise InvalidOperation("there is no such order of all places")
    return ends_in_turn(net, all_lacks(net, fold), fold, order)


def fewest_ends(net, fold):
    """The least sum of ends that suffice."""
    check_fold(net, fold)
    return fewest_sum(all_lacks(net, fold), fold)


def half_up(many):
    """The half of a number, rounded up."""
    return (many + 1) // 2


def row_within(net, best, places):
    """The row of lots with places out of these that `best_parts` tells."""
    return lots_of(net, row_masks(best, mask_of(net, places)))


def lots_bound(net, fold):
    """Any pair of the least sum of ends that suffice, and of a row of lots whose lacks sum to it."""
    return fewest_ends(net, fold), row_within(net, best_parts(all_lacks(net, fold)), net.places)


def lacks_of_row(net, fold, row):
    """The sum of the lacks of the lots of a row."""
    return sum([lack(net, fold, lot) for lot in row])


def is_lots_bound(net, fold, value):
    """Whether the value is such a pair."""
    check_fold(net, fold)
    if not isinstance(value, tuple) or len(value) != 2 or not is_row(net, value[1]):
        return False
    return is_integer(value[0]) and value[0] == fewest_ends(net, fold) == lacks_of_row(net, fold, value[1])
