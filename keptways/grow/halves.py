"""Halves: streets along which half of all numbers is kept, by a pairing of the odd places."""

from keptways.base.masks import all_cuts, all_needs, do_part, least_masks, lot_of, mask_of, numbers_of
from keptways.base.nets import check_lot, check_net, ordered
from keptways.base.words import ascends, is_pair, is_word
from keptways.errors import InvalidLot, InvalidRow
from keptways.grow.streets import all_leaving, check_streets, is_streets, spread_of
from keptways.ways.tight import need


def odd_places(net):
    """The ascending tuple of the places with an odd number of ties."""
    check_net(net)
    return net.odd


def _all_pairings(places):
    """The list of the tuples of pairs in which each of these places stands once, ascending."""
    if len(places) == 0:
        return [()]
    found = []
    for other in places[1:]:
        rest = [place for place in places[1:] if place != other]
        found.extend([((places[0], other), *more) for more in _all_pairings(rest)])
    return found


def pairings(net):
    """All pairings of a net, ascending."""
    check_net(net)
    for pairing in _all_pairings(net.odd):
        yield pairing


def is_pairing(net, value):
    """Whether the value is a pairing of the net."""
    check_net(net)
    return value in _all_pairings(net.odd)


def _check_pairing(net, pairing):
    """Refuse what is no net, and what is no pairing of it."""
    if not is_pairing(net, pairing):
        raise InvalidRow("there is no such pairing of the net")


def _pairs_words(value):
    """Whether the value is an ascending tuple of pairs of words, each word in one pair."""
    if not isinstance(value, tuple) or not all([is_pair(pair) for pair in value]):
        return False
    words = [word for pair in value for word in pair]
    return ascends(value) and len(set(words)) == len(words)


def crossing(pairing, lot):
    """By how many of its pairs a pairing crosses a lot."""
    if not _pairs_words(pairing):
        raise InvalidRow("there is no such pairing")
    if not isinstance(lot, tuple) or not all([is_word(word) for word in lot]) or not ascends(lot):
        raise InvalidLot("there is no such lot")
    return len([one for one, other in pairing if (one in lot) != (other in lot)])


def _room_beside(cut, many):
    """The room of a lot with this cut and this need."""
    return cut - many // 2 * 2


def room_of(net, lot):
    """The room of a lot."""
    check_net(net)
    check_lot(net, lot)
    return _room_beside(net.cut(lot), need(net, lot))


def _all_rooms(net):
    """The list of the rooms of all lots, at their masks."""
    needs = all_needs(net, numbers_of(net))
    return [_room_beside(cut, many) for cut, many in zip(all_cuts(net), needs)]


def _crossed_mask(net, rooms, pairing):
    """The first mask of a lot that a pairing crosses more often than its room, or None."""
    told = [mask_of(net, pair) for pair in pairing]
    for mask, room in enumerate(rooms):
        if len([ends for ends in told if do_part(mask, ends)]) > room:
            return mask
    return None


def crossed_lot(net, pairing):
    """Any lot that a pairing crosses more often than its room, or None."""
    _check_pairing(net, pairing)
    mask = _crossed_mask(net, _all_rooms(net), pairing)
    return None if mask is None else lot_of(net, mask)


def is_good_pairing(net, value):
    """Whether the value is a good pairing of the net."""
    return is_pairing(net, value) and crossed_lot(net, value) is None


def good_pairing(net):
    """The first good pairing of a net."""
    check_net(net)
    rooms = _all_rooms(net)
    return [pairing for pairing in _all_pairings(net.odd) if _crossed_mask(net, rooms, pairing) is None][0]


def _told_pairing(net, arrows):
    """The pairing whose arrows these are, or None if they are those of none."""
    if not isinstance(arrows, tuple) or not all([_is_arrow(net, arrow) for arrow in arrows]):
        return None
    told = tuple([ordered(one, other) for one, other in arrows])
    return told if is_pairing(net, told) else None


def _is_arrow(net, value):
    """Whether the value is a tuple of two places."""
    return isinstance(value, tuple) and len(value) == 2 and value[0] in net and value[1] in net


def _come_in_as_leave(net, streets, arrows):
    """Whether at each place as many streets and arrows leave as come in."""
    spread = spread_of(net.places, streets)
    more = spread_of(net.places, {arrow: 1 for arrow in arrows})
    return all([spread[place] + more[place] == 0 for place in net.places])


def is_balanced(net, streets, arrows):
    """Whether streets and arrows are balanced."""
    check_streets(net, streets)
    if _told_pairing(net, arrows) is None:
        raise InvalidRow("these are arrows of no pairing of the net")
    return _come_in_as_leave(net, streets, arrows)


def _evenly_turned(ties):
    """Each tie as a step in one direction, so that as many steps leave each place as come in.

    `ties` is a dict from pairs to numbers, in which each place has an even number of ties.
    """
    steps = {}
    left = []
    for one, other in ties:
        steps[one, other] = steps[other, one] = ties[one, other] // 2
        if ties[one, other] % 2 == 1:
            left.append((one, other))
    while left:
        # With even numbers at all places a walk along what is left can go on until it is back.
        start, here = left.pop()
        steps[start, here] = steps[start, here] + 1
        while here != start:
            pair = [pair for pair in left if here in pair][0]
            left = [other for other in left if other != pair]
            there = pair[0] if pair[1] == here else pair[1]
            steps[here, there] = steps[here, there] + 1
            here = there
    return steps


def balanced(net, pairing):
    """Any balanced pair of streets and of arrows of a pairing."""
    _check_pairing(net, pairing)
    ties = net.ties
    for pair in pairing:
        ties[pair] = ties.get(pair, 0) + 1
    steps = _evenly_turned(ties)
    arrows = tuple([(one, other) if steps[one, other] > 0 else (other, one) for one, other in pairing])
    for arrow in arrows:
        steps[arrow] = steps[arrow] - 1
    return {step: steps[step] for step in sorted(steps) if steps[step] > 0}, arrows


def losing_pair(net, streets):
    """The first pair of places from one to the other of which the half of their number is lost, or None."""
    check_streets(net, streets)
    leaving = all_leaving(net, streets)
    numbers = numbers_of(net)
    for start, one in enumerate(net.places):
        for end, other in enumerate(net.places):
            if start != end and leaving[least_masks(leaving, start, end)[0]] < numbers[ordered(one, other)] // 2:
                return one, other
    return None


def keeps_halves(net, streets):
    """Whether streets keep halves."""
    return losing_pair(net, streets) is None


def halving_paper(net):
    """Any triple of a good pairing, and of balanced arrows and streets of it."""
    pairing = good_pairing(net)
    streets, arrows = balanced(net, pairing)
    return pairing, arrows, streets


def is_halving_paper(net, value):
    """Whether the value is such a triple."""
    check_net(net)
    if not isinstance(value, tuple) or len(value) != 3:
        return False
    pairing, arrows, streets = value
    return (is_good_pairing(net, pairing) and _told_pairing(net, arrows) == pairing and is_streets(net, streets)
            and _come_in_as_leave(net, streets, arrows))


def halved(net):
    """The streets of such a triple."""
    _, _, streets = halving_paper(net)
    return streets
