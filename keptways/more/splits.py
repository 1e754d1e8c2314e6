"""What lots lack, told by masks: the fewest ends for it, rows of lots that show it, and new ties of ends.

`lacks` is the list of what all lots lack, at their masks, 0 for the empty one
and for that of all places. Places are told by their indices.
"""

from keptways.base.masks import has_place


def half_up(many):
    """The half of a number, rounded up."""
    return (many + 1) // 2


def all_sums(counts):
    """The list of the sums of the counts of the places of all lots, at the masks of the lots."""
    sums = [0]
    for many in counts:
        sums = sums + [ahead + many for ahead in sums]
    return sums


def fewest_counts(lacks, most, order):
    """As few ends for each place in turn as all lots let; `most` ends stand where its turn has not come."""
    counts = [most for _ in order]
    for at in order:
        counts[at] = 0
        sums = all_sums(counts)
        counts[at] = max([lacks[mask] - sums[mask] for mask in range(len(lacks)) if has_place(mask, at)])
    return counts


def fewest_sum(lacks, most):
    """The least sum of ends by which no lot lacks any; `most` of them at each place surely are enough."""
    return sum(fewest_counts(lacks, most, list(range(len(lacks).bit_length() - 1))))


def _parts_of(mask):
    """The masks of all parts of a lot, the empty one ahead."""
    parts = [0]
    left = mask
    while left > 0:
        first = left & -left
        parts = parts + [part + first for part in parts]
        left = left - first
    return parts


def best_parts(lacks):
    """For each mask the sum of a row of lots in it that lack most together, and the mask of a lot of the row.

    This is the lot with the first place of the mask, or 0 if the row has none. No lot of a row lacks nothing.
    """
    best = [(0, 0)]
    for mask in range(1, len(lacks)):
        first = mask & -mask
        rest = mask - first
        rows = [(lacks[first + part] + best[rest - part][0], first + part) for part in _parts_of(rest)
                if lacks[first + part] > 0]
        best.append(max([(best[rest][0], 0)] + rows))
    return best


def row_masks(best, mask):
    """The masks of the lots of the row in a mask that `best_parts` tells."""
    found = []
    left = mask
    while left > 0:
        _, part = best[left]
        if part > 0:
            found.append(part)
        # Without such a lot only the first place is gone through.
        left = left - part if part > 0 else left & (left - 1)
    return found


def new_pairs(spares, counts):
    """New ties with just these ends, as a list of pairs of indices.

    `spares` tells how much the cut of each lot, with its ends counted as ties
    that leave it, is more than it has to be; `counts` tells the ends. A new tie
    takes two from each lot that has both of its places. As long as each lot
    has enough, and the sum of the ends is even, one more tie can be told.
    """
    spare = [many for many in spares]
    left = [many for many in counts]
    found = []
    # Pairs of one place twice come first: they put no tie in.
    size = len(counts)
    for one, other in [(at, at) for at in range(size)] + [(at, to) for at in range(size) for to in range(at + 1, size)]:
        inside = [mask for mask in range(1, len(spare) - 1) if has_place(mask, one) and has_place(mask, other)]
        ends = left[one] // 2 if one == other else min(left[one], left[other])
        # What a pair can't do now it can't do behind others either: spares only fall.
        many = min([ends] + [spare[mask] // 2 for mask in inside])
        for mask in inside:
            spare[mask] = spare[mask] - 2 * many
        left[one] = left[one] - many
        left[other] = left[other] - many
        found.extend([(one, other) for _ in range(many)])
    return found
