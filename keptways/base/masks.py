"""Lots told by integers: bit k of a mask stands for the k-th place of a net.

A net has at most 512 lots. As masks all of them are gone through in a moment,
so what is asked of lots can be answered by a look at each one.
"""


def mask_of(net, lot):
    """The mask of a lot."""
    return sum([1 << at for at, place in enumerate(net.places) if place in lot])


def lot_of(net, mask):
    """The lot with this mask."""
    return tuple([place for at, place in enumerate(net.places) if has_place(mask, at)])


def lots_of(net, masks):
    """The ascending tuple of the lots with these masks."""
    return tuple(sorted([lot_of(net, mask) for mask in masks]))


def has_place(mask, at):
    """Whether the lot of a mask has the place at an index."""
    return (mask >> at) & 1 == 1


def do_part(mask, ends):
    """Whether the lot of a mask has just one place of a pair; `ends` is the mask of the pair."""
    return mask & ends not in (0, ends)


def do_masks_cross(one, other, full):
    """Whether no corner of two lots is empty; `full` is the mask of all places."""
    return one & other not in (0, one, other) and one | other != full


def all_cuts(net):
    """The list of the cuts of all lots: that of a lot stands at its mask."""
    ties = net.ties
    degrees = net.degrees
    cuts = [0]
    for at, place in enumerate(net.places):
        # The lots of the places so far, and then each of them with this place more.
        between = [0]
        for other in net.places[:at]:
            many = ties.get((other, place), 0)
            between = between + [ahead + many for ahead in between]
        cuts = cuts + [ahead + degrees[place] - 2 * many for ahead, many in zip(cuts, between)]
    return cuts


def all_needs(net, numbers):
    """The list of the needs of all lots, at their masks, if just these pairs have to be parted."""
    rows = sorted([(numbers[pair], mask_of(net, pair)) for pair in numbers], reverse=True)
    return [_first_parted(rows, mask) for mask in range(1 << len(net.places))]


def _first_parted(rows, mask):
    """The number of the first of these rows whose pair is parted by a lot, or 0."""
    for many, ends in rows:
        if do_part(mask, ends):
            return many
    return 0


def least_masks(cuts, start, end):
    """The masks of the least lots from the place at one index to that at another one."""
    tips = (1 << start) | (1 << end)
    masks = [mask for mask in range(len(cuts)) if mask & tips == 1 << start]
    least = min([cuts[mask] for mask in masks])
    return [mask for mask in masks if cuts[mask] == least]


def common_mask(masks):
    """The mask of what all lots of these masks have in common."""
    common = masks[0]
    for mask in masks:
        common = common & mask
    return common


def joint_mask(masks):
    """The mask of what the lots of these masks have together."""
    joint = 0
    for mask in masks:
        joint = joint | mask
    return joint


def numbers_of(net):
    """The dict from all pairs of places to their numbers."""
    cuts = all_cuts(net)
    # A pair is told by the least cut that parts it, so the lots are looked at in
    # the order of their cuts. One with the last place parts as its opposite does.
    masks = sorted(range(1, len(cuts) // 2), key=lambda lot: cuts[lot])
    left = [(pair, mask_of(net, pair)) for pair in net.pairs]
    found = {}
    for mask in masks:
        if not left:
            break
        for pair, ends in left:
            if do_part(mask, ends):
                found[pair] = cuts[mask]
        left = [row for row in left if row[0] not in found]
    return {pair: found[pair] for pair in net.pairs}
