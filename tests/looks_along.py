"""What the document says of streets, halves and pairings, held against a look at all lots."""

import random
from itertools import permutations

from keptways.base.nets import Net
from tests import looks
from tests.samples import single_ties


def drawn_streets(net, seed):
    """Streets of a net, each tie in a direction that is drawn."""
    draw = random.Random(seed)
    return counted_steps([pair if draw.random() < 0.5 else pair[::-1] for pair in single_ties(net)])


def counted_steps(steps):
    """The dict of a list of streets, with ascending keys."""
    return {step: steps.count(step) for step in sorted({*steps})}


def single_streets(streets):
    return [step for step, many in streets.items() for _ in range(many)]


def right_streets(net, value):
    if not isinstance(value, dict):
        return False
    for step, many in value.items():
        if not isinstance(step, tuple) or len(step) != 2 or not all(isinstance(tip, str) and tip in net.places for tip in step):
            return False
        if step[0] == step[1] or not looks.is_number(many) or not 1 <= many <= 60:
            return False
    return sorted(tuple(sorted(step)) for step in single_streets(value)) == single_ties(net)


def leaving(streets, lot):
    return sum(one in lot and other not in lot for one, other in single_streets(streets))


def one_way(net, streets, one, other):
    return min(leaving(streets, lot) for lot in looks.parting(net, one, other))


def one_ways(net, streets):
    """The one-way numbers of all pairs in both directions, in ascending order."""
    out = {lot: leaving(streets, lot) for lot in looks.proper_lots(net.places)}
    return {(one, other): min(out[lot] for lot in out if one in lot and other not in lot)
            for one in net.places for other in net.places if one != other}


def right_one_way_paper(net, streets, one, other, value):
    if not isinstance(value, tuple) or len(value) != 2:
        return False
    ways, lot = value
    if not isinstance(ways, tuple) or not all(looks.right_way(net, one, other, way) for way in ways):
        return False
    left = single_streets(streets)
    for way in ways:
        for at in range(len(way) - 1):
            if way[at:at + 2] not in left:
                return False
            left.remove(way[at:at + 2])
    return looks.right_lot(net.places, lot) and one in lot and other not in lot and leaving(streets, lot) == len(ways)


def along(growth):
    """The streets that come along a growth, as a list of streets."""
    streets = []
    for step in growth[1:]:
        if step[0] == "tie":
            streets.append(step[1:])
            continue
        _, place, pairs = step
        for one, other in pairs:
            if one == other:
                streets += [(one, place), (place, one)]
                continue
            start, end = (one, other) if (one, other) in streets else (other, one)
            streets.remove((start, end))
            streets += [(start, place), (place, end)]
    return counted_steps(streets)


def rounds(net, streets):
    """The lots of places that can be come to from each other, found by walks."""
    reach = {place: {place} for place in net.places}
    for _ in net.places:
        for one, other in streets:
            for place in reach:
                if one in reach[place]:
                    reach[place].add(other)
    return tuple(sorted({tuple(sorted(there for there in reach[here] if here in reach[there])) for here in net.places}))


def pairings(net):
    """All pairings of a net, taken off all orders of its odd places."""
    odd = [place for place in net.places if sum(place in pair for pair in single_ties(net)) % 2 == 1]
    found = set()
    for order in permutations(odd[1:]):
        places = [*odd[:1], *order]
        found.add(tuple(sorted(tuple(sorted(places[at:at + 2])) for at in range(0, len(places), 2))))
    return sorted(found)


def rooms(net):
    told = looks.numbers(net)
    return {lot: looks.cut(net, lot) - 2 * (looks.need(told, lot) // 2) for lot in looks.all_lots(net.places)}


def crossing(pairing, lot):
    return sum((one in lot) != (other in lot) for one, other in pairing)


def good_pairings(net):
    room = rooms(net)
    return [pairing for pairing in pairings(net) if all(crossing(pairing, lot) <= room[lot] for lot in room)]


def right_balance(net, streets, arrows):
    steps = [*single_streets(streets), *arrows]
    return all(sum(one == place for one, _ in steps) == sum(other == place for _, other in steps) for place in net.places)


def right_arrows(pairing, value):
    return (isinstance(value, tuple) and len(value) == len(pairing)
            and all(arrow in (pair, pair[::-1]) for pair, arrow in zip(pairing, value)))


def right_halving_paper(net, value):
    if not isinstance(value, tuple) or len(value) != 3 or value[0] not in good_pairings(net):
        return False
    pairing, arrows, streets = value
    return right_arrows(pairing, arrows) and right_streets(net, streets) and right_balance(net, streets, arrows)


def first_loss(net, streets):
    told = looks.numbers(net)
    for (one, other), many in one_ways(net, streets).items():
        if many < told[tuple(sorted((one, other)))] // 2:
            return one, other
    return None


def odd_net(many):
    """A net with just so many odd places."""
    places = "abcdefghi"
    ties = [(one, other) for one, other in zip(places[:many:2], places[1:many:2])]
    return Net(tuple(places[:max(many, 3)]), looks.counted(ties * 3 + [("a", "b"), ("b", "c"), ("a", "c")]))
