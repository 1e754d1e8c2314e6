"""Cut trees: trees of all places of a net, which tell the numbers of all pairs."""

from keptways.base.lots import opposite
from keptways.base.masks import all_cuts, common_mask, has_place, least_masks, numbers_of
from keptways.base.nets import Net, check_net, ordered
from keptways.base.words import ascends, is_integer
from keptways.errors import InvalidNumber, InvalidOperation, InvalidWays
from keptways.ways.flows import check_ends, family, is_family, pairs_along


def all_numbers(net):
    """The dict from all pairs of places to their numbers."""
    check_net(net)
    return numbers_of(net)


def makes_tree(places, pairs):
    """Whether ascending pairs of these places make a tree of all of them."""
    return len(pairs) == len(places) - 1 and len(_branches(places, pairs).groups()) == 1


def _branches(places, pairs):
    """The net with one tie for each of these pairs."""
    return Net(places, {pair: 1 for pair in pairs})


def side_of(places, pairs, at):
    """The side of the first place of the pair at an index, when it is taken out of a tree."""
    left = _branches(places, [pair for pair in pairs if pair != pairs[at]])
    return [lot for lot in left.groups() if pairs[at][0] in lot][0]


def are_rows(places, value, size):
    """Whether the value is a tuple of tuples of a size, which begin with a pair of these places, ascending."""
    return (isinstance(value, tuple) and all([_is_row(places, row, size) for row in value])
            and ascends(ends_of_rows(value)))


def _is_row(places, row, size):
    """Whether the row is a tuple of this size that begins with a pair of these places."""
    return (isinstance(row, tuple) and len(row) == size and row[0] in places and row[1] in places
            and row[0] < row[1])


def ends_of_rows(rows):
    """The pairs with which rows begin."""
    return [row[:2] for row in rows]


def _hang_up(net):
    """For each place, by index: the index of the one over it in a cut tree, and the cut between them.

    This is Gusfield's way to make a tree: each place in turn is parted by a
    least lot from the one over it, and takes with it what hangs there, too.
    The first place is the top.
    """
    cuts = all_cuts(net)
    size = len(net.places)
    over = [0] * size
    many = [0] * size
    for at in range(1, size):
        head = over[at]
        mask = common_mask(least_masks(cuts, at, head))
        for low in range(size):
            if low != at and over[low] == head and has_place(mask, low):
                over[low] = at
        many[at] = cuts[mask]
        if has_place(mask, over[head]):
            # The place over the head is on the other side of it, so the two change their parts.
            over[at], over[head] = over[head], at
            many[at], many[head] = many[head], many[at]
    return over, many


def cut_tree(net):
    """Any cut tree of a net."""
    check_net(net)
    over, many = _hang_up(net)
    places = net.places
    rows = []
    for at in range(1, len(places)):
        one, other = ordered(places[at], places[over[at]])
        rows.append((one, other, many[at]))
    return tuple(sorted(rows))


def is_cut_tree(net, value):
    """Whether the value is a cut tree of the net."""
    check_net(net)
    if not are_rows(net.places, value, 3) or not all([is_integer(row[2]) for row in value]):
        return False
    pairs = ends_of_rows(value)
    if not makes_tree(net.places, pairs):
        return False
    numbers = numbers_of(net)
    return all([net.cut(side_of(net.places, pairs, at)) == row[2] == numbers[row[:2]] for at, row in enumerate(value)])


def _check_parted(net):
    """Refuse what is no net, and a net of one place."""
    check_net(net)
    if len(net.places) == 1:
        raise InvalidOperation("there are no two places")


def least_number(net):
    """The least number of two places."""
    _check_parted(net)
    return min([row[2] for row in cut_tree(net)])


def least_lot(net):
    """Any lot whose cut is the least number."""
    _check_parted(net)
    tree = CutTree(net)
    return tree.side(_least_at(tree.triples))


def _least_at(rows):
    """The index of the first of these triples with the least number."""
    numbers = [row[2] for row in rows]
    return numbers.index(min(numbers))


def _check_least(k):
    """Refuse what is no integer of at least 0."""
    if not is_integer(k) or k < 0:
        raise InvalidNumber(k)


def classes(net, k):
    """The ascending tuple of the lots of places that are k-joined."""
    check_net(net)
    _check_least(k)
    numbers = numbers_of(net)
    return tuple(sorted({tuple([other for other in net.places if place == other or numbers[ordered(place, other)] >= k])
                         for place in net.places}))


def class_lots(net, k):
    """Any lots with cuts of less than k that part the classes, one less than there are classes."""
    check_net(net)
    _check_least(k)
    tree = CutTree(net)
    return tuple(sorted([tree.side(at) for at, row in enumerate(tree.triples) if row[2] < k]))


class CutTree:
    """A cut tree of a net. It never changes."""

    def __init__(self, net, rows=None):
        check_net(net)
        if rows is not None and not is_cut_tree(net, rows):
            raise InvalidWays("the rows are no cut tree of the net")
        self._net = net
        self._triples = cut_tree(net) if rows is None else rows

    @property
    def net(self):
        """The net."""
        return self._net

    @property
    def triples(self):
        """The triples of the tree."""
        return self._triples

    def number_of(self, one, other):
        """The number of two places."""
        return min([row[2] for row in self.way(one, other)])

    def way(self, one, other):
        """The triples on the way from the first place to the second one."""
        check_ends(self._net, one, other)
        pairs = ends_of_rows(self._triples)
        # In a tree there is one way only, so each family shows it.
        steps = family(_branches(self._net.places, pairs), one, other)[0]
        return tuple([self._triples[pairs.index(pair)] for pair in pairs_along(steps)])

    def narrowest(self, one, other):
        """The lot with the first place that is a side of the first least triple on the way."""
        rows = self.way(one, other)
        side = self.side(self._triples.index(rows[_least_at(rows)]))
        return side if one in side else opposite(self._net, side)

    def side(self, index):
        """The side of the first place of a triple."""
        self._check_index(index)
        return side_of(self._net.places, ends_of_rows(self._triples), index)

    def families(self):
        """For each triple a family of its ends with as many ways as its number."""
        for one, other, _ in self._triples:
            yield family(self._net, one, other)

    def is_tree_of(self, net):
        """Whether the triples are a cut tree of another net, too."""
        return is_cut_tree(net, self._triples)

    def __getitem__(self, index):
        self._check_index(index)
        return self._triples[index]

    def __len__(self):
        return len(self._triples)

    def __iter__(self):
        return iter(self._triples)

    def __contains__(self, value):
        # True is equal to 1 here, but is no number.
        return value in self._triples and is_integer(value[2])

    def __eq__(self, other):
        return isinstance(other, CutTree) and self._net == other._net and self._triples == other._triples

    def __str__(self):
        if len(self._triples) == 0:
            return "no cuts"
        return f"{len(self._triples)} cuts, the least {min([row[2] for row in self._triples])}"

    def _check_index(self, index):
        """Refuse what is no index of a triple."""
        if not is_integer(index) or not 0 <= index < len(self._triples):
            raise InvalidNumber(index)


def numbers_paper(net):
    """Any tuple of the triples of a cut tree, each with a family that shows its number."""
    check_net(net)
    return tuple([(row, family(net, row[0], row[1])) for row in cut_tree(net)])


def is_numbers_paper(net, value):
    """Whether the value is such a tuple."""
    check_net(net)
    if not isinstance(value, tuple) or not all([isinstance(item, tuple) and len(item) == 2 for item in value]):
        return False
    return is_cut_tree(net, tuple([item[0] for item in value])) and all([_shows(net, row, ways) for row, ways in value])


def _shows(net, row, ways):
    """Whether the ways are a family that shows the number of a triple."""
    return is_family(net, row[0], row[1], ways) and len(ways) == row[2]
