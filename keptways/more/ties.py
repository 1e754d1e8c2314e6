"""The fewest new ties, and those of the least price, behind which all numbers are great enough."""

from keptways.base.lots import is_row
from keptways.base.masks import best_parts
from keptways.base.nets import MAX_TIES, check_net, ordered
from keptways.base.words import is_integer
from keptways.errors import InvalidOperation, NothingToUndo
from keptways.more.rows import all_lacks, are_counts, check_ends_of, check_fold, counts_of, ends_in_turn, fewest_ends
from keptways.more.rows import half_up, is_ends, lacks_of_row, lots_bound, makes_fold, met_ties, row_within

MAX_PRICE = 1000


def fewest_ties(net, fold):
    """The least number of new ties behind which the net is k-fold."""
    return half_up(fewest_ends(net, fold))


def with_even_sum(ends, place):
    """The ends, with one more at a place if their sum is odd."""
    more = sum(ends.values()) % 2
    return {tip: ends[tip] + (more if tip == place else 0) for tip in ends}


def ties_paper(net, fold):
    """Any pair of new ties behind which the net is k-fold, and of a row of lots that shows that they are the fewest."""
    _, row = lots_bound(net, fold)
    ends = ends_in_turn(net, all_lacks(net, fold), fold, net.places)
    return met_ties(net, fold, with_even_sum(ends, net.places[0])), row


def is_ties_paper(net, fold, value):
    """Whether the value is such a pair."""
    check_fold(net, fold)
    if not isinstance(value, tuple) or len(value) != 2 or not is_row(net, value[1]):
        return False
    return makes_fold(net, fold, value[0]) and len(value[0]) == half_up(lacks_of_row(net, fold, value[1]))


def is_prices(net, value):
    """Whether the value is prices."""
    check_net(net)
    return are_counts(net, value, MAX_PRICE)


def _check_prices(net, prices):
    """Refuse what is no net, and what is no prices of it."""
    if not is_prices(net, prices):
        raise InvalidOperation("there are no such prices")


def _check_asked(net, fold, prices):
    """Refuse what is no net, no number of ways that is asked for, and no prices."""
    check_fold(net, fold)
    _check_prices(net, prices)


def _price(prices, ends):
    """The price of ends."""
    return sum([prices[place] * ends[place] for place in ends])


def price_of(net, prices, ends):
    """The price of ends."""
    _check_prices(net, prices)
    check_ends_of(net, ends)
    return _price(prices, ends)


def cheapest_ends(net, fold, prices):
    """Any ends that suffice and have the least price of such."""
    _check_asked(net, fold, prices)
    # What is dearer gets as few as are let first, as long as all others can have more.
    order = [place for _, place in sorted([(-prices[place], place) for place in net.places])]
    return ends_in_turn(net, all_lacks(net, fold), fold, order)


def _cheapest_even(net, fold, prices):
    """Ends that suffice, with an even sum, and have the least price of such."""
    _, place = min([(prices[place], place) for place in net.places])
    return with_even_sum(cheapest_ends(net, fold, prices), place)


def least_price(net, fold, prices):
    """The least price of new ties behind which the net is k-fold."""
    _check_asked(net, fold, prices)
    return _price(prices, _cheapest_even(net, fold, prices))


def weighing(net, fold, prices):
    """Any weighing whose worth is the least price of ends that suffice."""
    _check_asked(net, fold, prices)
    best = best_parts(all_lacks(net, fold))
    told = []
    ahead = 0
    # Each step from a price to the next greater one weighs a row of lots with places that are as dear.
    for price in sorted({prices[place] for place in prices if prices[place] > 0}):
        row = row_within(net, best, [place for place in net.places if prices[place] >= price])
        if len(row) > 0:
            told.append((price - ahead, row))
        ahead = price
    return tuple(told)


def is_weighing(net, prices, value):
    """Whether the value is a weighing for prices."""
    _check_prices(net, prices)
    if not isinstance(value, tuple) or not all([_is_weighed(net, item) for item in value]):
        return False
    return all([_weight_at(value, place) <= prices[place] for place in net.places])


def _is_weighed(net, value):
    """Whether the value is a pair of a weight and of a row of lots."""
    return (isinstance(value, tuple) and len(value) == 2 and is_integer(value[0]) and 1 <= value[0] <= MAX_PRICE
            and is_row(net, value[1]))


def _weight_at(told, place):
    """The sum of the weights of the rows that have a place in a lot."""
    return sum([weight for weight, row in told if any([place in lot for lot in row])])


def worth(net, fold, prices, told):
    """The worth of a weighing."""
    _check_asked(net, fold, prices)
    if not is_weighing(net, prices, told):
        raise InvalidOperation("there is no such weighing")
    return sum([weight * lacks_of_row(net, fold, row) for weight, row in told])


def price_paper(net, fold, prices):
    """Any triple of new ties of the least price, of this price, and of a weighing that shows that it is the least."""
    _check_asked(net, fold, prices)
    ends = _cheapest_even(net, fold, prices)
    return met_ties(net, fold, ends), _price(prices, ends), weighing(net, fold, prices)


def is_price_paper(net, fold, prices, value):
    """Whether the value is such a triple."""
    _check_asked(net, fold, prices)
    if not isinstance(value, tuple) or len(value) != 3:
        return False
    new_ties, price, told = value
    if not makes_fold(net, fold, new_ties) or not is_integer(price) or not is_weighing(net, prices, told):
        return False
    ends = counts_of(net, new_ties)
    more = min(prices.values()) if fewest_ends(net, fold) % 2 == 1 else 0
    return is_ends(net, ends) and price == _price(prices, ends) == worth(net, fold, prices, told) + more


class Plan:
    """New ties of a net that are made one after the other."""

    def __init__(self, net, fold):
        check_fold(net, fold)
        self._start = net
        self._net = net
        self._fold = fold
        self._made = ()
        self._needed = fewest_ties(net, fold)

    @property
    def net(self):
        """The net with the ties so far."""
        return self._net

    @property
    def fold(self):
        """The number of ways that is asked for."""
        return self._fold

    @property
    def made(self):
        """The new ties so far, in the order in which they were made."""
        return self._made

    def left(self):
        """The fewest new ties that are still needed."""
        return self._needed

    def useful(self):
        """The ascending tuple of the pairs that can still be made, and behind which fewer are needed."""
        if self._net.size == MAX_TIES:
            return ()
        return tuple([(one, other) for one, other in self._net.pairs
                      if fewest_ties(self._net.joined(one, other), self._fold) < self._needed])

    def make(self, one, other):
        """Make a tie, and tell what is left then."""
        # A tie that can't be made is refused here.
        net = self._net.joined(one, other)
        return self._become(net, (*self._made, ordered(one, other)))

    def take_back(self):
        """Take the last tie back, and tell what is left then."""
        if len(self._made) == 0:
            raise NothingToUndo(1)
        one, other = self._made[-1]
        return self._become(self._net.untied(one, other), self._made[:-1])

    def __contains__(self, value):
        return value in self._made

    def __len__(self):
        return len(self._made)

    def __iter__(self):
        return iter(self._made)

    def __eq__(self, other):
        return (isinstance(other, Plan) and self._start == other._start and self._fold == other._fold
                and self._made == other._made)

    def __str__(self):
        return f"{len(self._made)} made, {self._needed} left"

    def _become(self, net, made):
        """Go on to a net with these new ties, and tell what is left then."""
        self._net = net
        self._made = made
        self._needed = fewest_ties(net, self._fold)
        return self._needed
