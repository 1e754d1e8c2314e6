"""Pairs of ties at a place, and which of them can be led past it with all numbers kept."""

from keptways.base.lots import outside
from keptways.base.nets import makes_lot, ordered
from keptways.base.words import is_integer
from keptways.errors import InvalidOperation
from keptways.ways.flows import family, is_family, most_apart
from keptways.ways.tight import check_beside, narrow_lots, other_numbers
from keptways.ways.trees import are_rows, cut_tree, ends_of_rows, makes_tree, side_of


def pairs_at(net, place):
    """The ascending tuple of all pairs at a place."""
    check_beside(net, place)
    near = net[place]
    return tuple([(one, other) for one in near for other in near if one < other or (one == other and near[one] > 1)])


def _check_pair(net, place, pair):
    """Refuse what is no net, no place of it, and no pair at the place."""
    if pair not in pairs_at(net, place):
        raise InvalidOperation("there is no such pair at the place")


def led_past(net, place, pair):
    """The net behind leading a pair past a place."""
    _check_pair(net, place, pair)
    one, other = pair
    left = net.untied(place, one).untied(place, other)
    return left if one == other else left.joined(one, other)


def numbers_beside(net, place):
    """The dict from the pairs of the other places to their numbers."""
    check_beside(net, place)
    return other_numbers(net, place)


def does_keep(net, place, pair):
    """Whether a pair keeps."""
    return len(losing_lots(net, place, pair)) == 0


def _lots_with(told, pair):
    """Those of the told lots that have both places of a pair."""
    one, other = pair
    return tuple([lot for lot in told if one in lot and other in lot])


def keeping_pairs(net, place):
    """The ascending tuple of the pairs at a place that keep."""
    pairs = pairs_at(net, place)
    narrow = narrow_lots(net, place)
    return tuple([pair for pair in pairs if len(_lots_with(narrow, pair)) == 0])


def losing_lots(net, place, pair):
    """The ascending tuple of the narrow lots beside a place that have both places of a pair."""
    _check_pair(net, place, pair)
    return _lots_with(narrow_lots(net, place), pair)


def keeping_paper(net, place, pair):
    """Any paper that a pair keeps, or that it loses."""
    losing = losing_lots(net, place, pair)
    if len(losing) > 0:
        return _losing_paper(net, place, losing[0])
    return "kept", _kept_rows(net, place, led_past(net, place, pair))


def _losing_paper(net, place, lot):
    """The paper that shows by a narrow lot that a pair in it loses."""
    numbers = other_numbers(net, place)
    tips = [(one, other) for one in lot for other in outside(net.places, (*lot, place))]
    told = [numbers[ordered(one, other)] for one, other in tips]
    one, other = tips[told.index(max(told))]
    return "loses", one, other, family(net, one, other), lot


def _pairs_beside(net, place):
    """The pairs of a tree of the other places, whose sides, with or without the place, have the numbers as cuts.

    In a cut tree of the net another place stands in for this one: the end of
    the greatest triple that leads to it, as no number between others hangs on
    that triple alone.
    """
    rows = cut_tree(net)
    near = sorted([(row[2], row[0] if row[1] == place else row[1]) for row in rows if place in row[:2]])
    _, heir = near[-1]
    named = [[heir if tip == place else tip for tip in row[:2]] for row in rows]
    return sorted([ordered(one, other) for one, other in named if one != other])


def _told_number(net, place, pairs, at):
    """The number that the row of a pair of a tree of the other places tells."""
    lot = side_of(outside(net.places, (place,)), pairs, at)
    return min(net.cut(lot), net.cut(tuple(sorted([*lot, place]))))


def _kept_rows(net, place, behind):
    """The rows that show that all numbers beside a place are kept in the net behind."""
    pairs = _pairs_beside(net, place)
    rows = []
    for at, (one, other) in enumerate(pairs):
        number = _told_number(net, place, pairs, at)
        rows.append((one, other, number, most_apart(behind, one, other, number)))
    return tuple(rows)


def is_keeping_paper(net, place, pair, value):
    """Whether the value is a paper that a pair keeps, or that it loses."""
    _check_pair(net, place, pair)
    if not isinstance(value, tuple):
        return False
    if len(value) == 2 and value[0] == "kept":
        return _are_kept_rows(net, place, led_past(net, place, pair), value[1])
    return len(value) == 5 and value[0] == "loses" and _shows_loss(net, place, pair, value)


def _are_kept_rows(net, place, behind, value):
    """Whether the value is rows that show that all numbers beside a place are kept."""
    places = outside(net.places, (place,))
    if not are_rows(places, value, 4):
        return False
    pairs = ends_of_rows(value)
    return makes_tree(places, pairs) and all([_is_kept_row(behind, row, _told_number(net, place, pairs, at))
                                              for at, row in enumerate(value)])


def _is_kept_row(behind, row, many):
    """Whether a row tells this number, and shows as many ways in the net behind."""
    one, other, number, ways = row
    return is_integer(number) and number == many and is_family(behind, one, other, ways) and len(ways) == number


def _shows_loss(net, place, pair, value):
    """Whether a tuple of five items shows that a pair loses."""
    _, one, other, ways, lot = value
    others = outside(net.places, (place,))
    return (one in others and other in others and one != other and is_family(net, one, other, ways)
            and makes_lot(others, lot) and one in lot and other not in lot and len(_lots_with((lot,), pair)) == 1
            and net.cut(lot) < len(ways) + 2)
