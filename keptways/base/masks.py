"""Lots told by integers: bit k of a mask stands for the k-th place of a net.

A net has at most 512 lots. As masks all of them are gone through in a moment,
so what is asked of lots can be answered by a look at each one. Below stands
what so tells ends of new ties, and rows of lots that show that there are no
fewer.
"""


def mask_of(net, lot):
    """The mask of a lot."""
    return sum([1 << at for at, place in enumerate(net.places) if place in lot])


def lot_of(net, mask):
    """The lot with this mask."""
    return tuple([place for at, place in enumerate(net.places) if has_place(mask, at)])


def lots_of(net, masks):
    """The ascending tuple of the lots with these masks."""
    return tuple(sorted([lot_of(net, mask) for mask in masks]))


def has_place(mask, at):
    """Whether the lot of a mask has the place at an index."""
    return (mask >> at) & 1 == 1


def do_part(mask, ends):
    """Whether the lot of a mask has just one place of a pair; `ends` is the mask of the pair."""
    return mask & ends not in (0, ends)


def do_masks_cross(one, other, full):
    """Whether no corner of two lots is empty; `full` is the mask of all places."""
    return one & other not in (0, one, other) and one | other != full


def all_cuts(net):
    """The list of the cuts of all lots: that of a lot stands at its mask."""
    ties = net.ties
    degrees = net.degrees
    cuts = [0]
    for at, place in enumerate(net.places):
        # The lots of the places so far, and then each of them with this place more.
        between = [0]
        for other in net.places[:at]:
            many = ties.get((other, place), 0)
            between = between + [ahead + many for ahead in between]
        cuts = cuts + [ahead + degrees[place] - 2 * many for ahead, many in zip(cuts, between)]
    return cuts


def all_sums(counts):
    """The list of the sums of the counts of the places of all lots, at the masks of the lots."""
    sums = [0]
    for many in counts:
        sums = sums + [ahead + many for ahead in sums]
    return sums


def all_needs(net, numbers):
    """The list of the needs of all lots, at their masks, if just these pairs have to be parted."""
    rows = sorted([(numbers[pair], mask_of(net, pair)) for pair in numbers], reverse=True)
    return [_first_parted(rows, mask) for mask in range(1 << len(net.places))]


def _first_parted(rows, mask):
    """The number of the first of these rows whose pair is parted by a lot, or 0."""
    for many, ends in rows:
        if do_part(mask, ends):
            return many
    return 0


def least_masks(cuts, start, end):
    """The masks of the least lots from the place at one index to that at another one."""
    tips = (1 << start) | (1 << end)
    masks = [mask for mask in range(len(cuts)) if mask & tips == 1 << start]
    least = min([cuts[mask] for mask in masks])
    return [mask for mask in masks if cuts[mask] == least]


def common_mask(masks):
    """The mask of what all lots of these masks have in common."""
    common = masks[0]
    for mask in masks:
        common = common & mask
    return common


def joint_mask(masks):
    """The mask of what the lots of these masks have together."""
    joint = 0
    for mask in masks:
        joint = joint | mask
    return joint


def numbers_of(net):
    """The dict from all pairs of places to their numbers."""
    cuts = all_cuts(net)
    # A pair is told by the least cut that parts it, so the lots are looked at in
    # the order of their cuts. One with the last place parts as its opposite does.
    masks = sorted(range(1, len(cuts) // 2), key=lambda lot: cuts[lot])
    left = [(pair, mask_of(net, pair)) for pair in net.pairs]
    found = {}
    for mask in masks:
        if not left:
            break
        for pair, ends in left:
            if do_part(mask, ends):
                found[pair] = cuts[mask]
        left = [row for row in left if row[0] not in found]
    return {pair: found[pair] for pair in net.pairs}


# What follows is about ends of new ties. `lacks` is the list of how many ends all
# lots need, at their masks, 0 for the empty one and for that of all places;
# places are told by their indices.


def fewest_counts(lacks, most, order):
    """As few ends for each place in turn as all lots let; `most` ends stand where its turn has not come."""
    counts = [most for _ in order]
    for at in order:
        counts[at] = 0
        sums = all_sums(counts)
        counts[at] = max([lacks[mask] - sums[mask] for mask in range(len(lacks)) if has_place(mask, at)])
    return counts


def fewest_sum(lacks, most):
    """The least sum of ends by which no lot lacks any; `most` of them at each place surely are enough."""
    return sum(fewest_counts(lacks, most, list(range(len(lacks).bit_length() - 1))))


def _parts_of(mask):
    """The masks of all parts of a lot, the empty one ahead."""
    parts = [0]
    left = mask
    while left > 0:
        first = left & -left
        parts = parts + [part + first for part in parts]
        left = left - first
    return parts


def best_parts(lacks):
    """For each mask the sum of a row of lots in it that lack most together, and the mask of a lot of the row.

    This is the lot with the first place of the mask, or 0 if the row has none. No lot of a row lacks nothing.
    """
    best = [(0, 0)]
    for mask in range(1, len(lacks)):
        first = mask & -mask
        rest = mask - first
        rows = [(lacks[first + part] + best[rest - part][0], first + part) for part in _parts_of(rest)
                if lacks[first + part] > 0]
        best.append(max([(best[rest][0], 0)] + rows))
    return best


def row_masks(best, mask):
    """The masks of the lots of the row in a mask that `best_parts` tells."""
    found = []
    left = mask
    while left > 0:
        _, part = best[left]
        if part > 0:
            found.append(part)
        # Without such a lot only the first place is gone through.
        left = left - part if part > 0 else left & (left - 1)
    return found


def new_pairs(spares, counts):
    """New ties with just these ends, as a list of pairs of indices.

    `spares` tells how much the cut of each lot, with its ends counted as ties
    that leave it, is more than it has to be; `counts` tells the ends. A new tie
    takes two from each lot that has both of its places. As long as each lot
    has enough, and the sum of the ends is even, one more tie can be told.
    """
    spare = [many for many in spares]
    left = [many for many in counts]
    found = []
    # Pairs of one place twice come first: they put no tie in.
    size = len(counts)
    for one, other in [(at, at) for at in range(size)] + [(at, to) for at in range(size) for to in range(at + 1, size)]:
        inside = [mask for mask in range(1, len(spare) - 1) if has_place(mask, one) and has_place(mask, other)]
        ends = left[one] // 2 if one == other else min(left[one], left[other])
        # What a pair can't do now it can't do behind others either: spares only fall.
        many = min([ends] + [spare[mask] // 2 for mask in inside])
        for mask in inside:
            spare[mask] = spare[mask] - 2 * many
        left[one] = left[one] - many
        left[other] = left[other] - many
        found.extend([(one, other) for _ in range(many)])
    return found
