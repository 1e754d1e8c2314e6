"""What the document says, held against a look at all lots: slow, plain, and apart from the package's own ways."""

from itertools import combinations

from keptways.base.nets import Net
from tests.samples import single_ties


def all_lots(places):
    """All lots of these places, also the empty one and that of all, ascending."""
    return sorted(lot for many in range(len(places) + 1) for lot in combinations(places, many))


def proper_lots(places):
    return [lot for lot in all_lots(places) if 0 < len(lot) < len(places)]


def cut(net, lot):
    return sum((one in lot) != (other in lot) for one, other in single_ties(net))


def parting(net, one, other):
    """The lots with the first place and without the second one, and their cuts."""
    return {lot: cut(net, lot) for lot in proper_lots(net.places) if one in lot and other not in lot}


def number(net, one, other):
    return min(parting(net, one, other).values())


def least_lots(net, one, other):
    cuts = parting(net, one, other)
    return tuple(lot for lot in cuts if cuts[lot] == min(cuts.values()))


def numbers(net):
    """The numbers of all pairs, with each lot looked at once."""
    cuts = {lot: cut(net, lot) for lot in proper_lots(net.places)}
    return {pair: min(cuts[lot] for lot in cuts if (pair[0] in lot) != (pair[1] in lot)) for pair in net.pairs}


def need(told, lot):
    """The need of a lot by the numbers of pairs that are told."""
    return max((told[pair] for pair in told if (pair[0] in lot) != (pair[1] in lot)), default=0)


def beside(net, place):
    """The numbers of the pairs of other places."""
    return {pair: many for pair, many in numbers(net).items() if place not in pair}


def others(net, place):
    return tuple(other for other in net.places if other != place)


def lots_with_spare(net, place, most):
    told = beside(net, place)
    return tuple(lot for lot in proper_lots(others(net, place)) if cut(net, lot) - need(told, lot) <= most)


def is_number(value):
    return isinstance(value, int) and not isinstance(value, bool)


def right_lot(places, value):
    return isinstance(value, tuple) and any(value == lot for lot in all_lots(places))


def right_way(net, one, other, value):
    if not isinstance(value, tuple) or len(value) < 2 or not all(isinstance(place, str) for place in value):
        return False
    return (value[0], value[-1]) == (one, other) and all(place in net.places for place in value) and len({*value}) == len(value)


def right_family(net, one, other, value):
    """Whether the value is a family: each step takes a tie off a list."""
    if not isinstance(value, tuple) or not all(right_way(net, one, other, way) for way in value):
        return False
    left = single_ties(net)
    for way in value:
        for at in range(len(way) - 1):
            pair = tuple(sorted(way[at:at + 2]))
            if pair not in left:
                return False
            left.remove(pair)
    return True


def sides(places, pairs, at):
    """The two lots of places that hang together when a pair is taken out, that of its first place first."""
    found = []
    for tip in pairs[at]:
        side = {tip}
        for _ in places:
            for pair in pairs[:at] + pairs[at + 1:]:
                if side & {*pair}:
                    side |= {*pair}
        found.append(tuple(sorted(side)))
    return tuple(found)


def right_branches(places, value, size):
    """Whether the value is a tuple of tuples of a size, whose first two items are the pairs of a tree."""
    if not isinstance(value, tuple) or len(value) != len(places) - 1:
        return False
    if not all(isinstance(row, tuple) and len(row) == size and all(isinstance(tip, str) for tip in row[:2]) for row in value):
        return False
    pairs = [row[:2] for row in value]
    if not all(one in places and other in places and one < other for one, other in pairs) or sorted({*pairs}) != pairs:
        return False
    return all(not {*here} & {*there} for here, there in (sides(places, pairs, at) for at in range(len(pairs))))


def right_tree(net, value):
    if not right_branches(net.places, value, 3) or not all(is_number(row[2]) for row in value):
        return False
    pairs = [row[:2] for row in value]
    told = numbers(net)
    return all(row[2] == told[row[:2]] == cut(net, sides(net.places, pairs, at)[0]) for at, row in enumerate(value))


def bends(value):
    """Values that are bent at one item, at any depth."""
    if isinstance(value, tuple):
        yield from (list(value), value[::-1], (*value, ()), (), None)
        for at, item in enumerate(value):
            yield value[:at] + value[at + 1:]
            yield value[:at] + (item,) + value[at:]
            yield value[:at] + value[at + 1:at + 2] + (item,) + value[at + 2:]
            for bent in bends(item):
                yield value[:at] + (bent,) + value[at + 1:]
    elif is_number(value):
        yield from (value + 1, value - 1, -value, str(value), None, (value,), 10 ** 60)
        if value in (0, 1):
            yield bool(value)
    elif isinstance(value, str):
        yield from ("a", "b", "c", "d", "q", "", value.upper(), value * 9, value + " ", 1, True, None, (value,), [value])
    elif isinstance(value, dict):
        yield from (tuple(value.items()), [*value], None)
        for key in value:
            yield {other: value[other] for other in value if other != key}
            for bent in bends(value[key]):
                yield {**value, key: bent}


def counted(ties):
    """The dict of ties with each pair of a list, in either order."""
    ordered = sorted(tuple(sorted(pair)) for pair in ties)
    return {pair: ordered.count(pair) for pair in ordered}


def pairs_at(net, place):
    """The pairs of the far ends of two ties of a place."""
    ends = [other for pair in single_ties(net) if place in pair for other in pair if other != place]
    return tuple(sorted({tuple(sorted(two)) for two in combinations(ends, 2)}))


def led_past(net, place, pair):
    """The net behind leading past, made of a list of ties."""
    ties = single_ties(net)
    for tip in pair:
        ties.remove(tuple(sorted((tip, place))))
    return Net(net.places, counted([*ties, pair] if pair[0] != pair[1] else ties))


def does_keep(net, place, pair):
    return beside(net, place) == beside(led_past(net, place, pair), place)


def right_keeping_paper(net, place, pair, value):
    if not isinstance(value, tuple) or not value:
        return False
    places = others(net, place)
    if value[0] == "kept":
        return len(value) == 2 and right_kept_rows(net, place, pair, value[1])
    if value[0] != "loses" or len(value) != 5:
        return False
    _, one, other, ways, lot = value
    if not isinstance(one, str) or not isinstance(other, str) or one not in places or other not in places or one == other:
        return False
    return (right_family(net, one, other, ways) and right_lot(places, lot) and {one, *pair} <= {*lot} and other not in lot
            and cut(net, lot) < len(ways) + 2)


def right_kept_rows(net, place, pair, rows):
    places, behind = others(net, place), led_past(net, place, pair)
    if not right_branches(places, rows, 4):
        return False
    pairs = [row[:2] for row in rows]
    for at, (one, other, many, ways) in enumerate(rows):
        side = sides(places, pairs, at)[0]
        if not is_number(many) or many != min(cut(net, side), cut(net, (*side, place))):
            return False
        if not right_family(behind, one, other, ways) or len(ways) != many:
            return False
    return True
