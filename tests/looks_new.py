"""What the document says of ends, new ties, rows of lots, prices and wants, held against a look at all of them."""

from itertools import combinations_with_replacement, product

from keptways.base.nets import Net
from tests import looks
from tests.samples import single_ties


def right_ends(net, value, most=60):
    return (isinstance(value, dict) and sorted(map(repr, value)) == sorted(map(repr, net.places))
            and all(looks.is_number(many) and 0 <= many <= most for many in value.values()))


def right_new_ties(net, value):
    if not isinstance(value, tuple) or not all(isinstance(pair, tuple) and len(pair) == 2 for pair in value):
        return False
    if not all(isinstance(tip, str) and tip in net.places for pair in value for tip in pair):
        return False
    return all(one <= other for one, other in value) and sorted(value) == [*value]


def lack(net, fold, lot):
    return max(0, fold - looks.cut(net, lot))


def lacks(net, fold):
    return {lot: lack(net, fold, lot) for lot in looks.proper_lots(net.places)}


def summed(ends, lot):
    return sum(ends[place] for place in lot)


def below(told, ends):
    """The lots that have fewer ends than they lack."""
    return tuple(lot for lot in told if summed(ends, lot) < told[lot])


def counted_ends(net, new_ties):
    return {place: sum(pair.count(place) for pair in new_ties) for place in net.places}


def behind(net, new_ties):
    """The net with new ties, or None if there are too many."""
    ties = [*single_ties(net), *[pair for pair in new_ties if pair[0] != pair[1]]]
    return Net(net.places, looks.counted(ties)) if len(ties) <= 60 else None


def right_fold(net, fold, new_ties):
    """Whether the value is new ties behind which all cuts are great enough."""
    if not right_new_ties(net, new_ties):
        return False
    made = behind(net, new_ties)
    return made is not None and all(looks.cut(made, lot) >= fold for lot in looks.proper_lots(net.places))


def right_ends_paper(net, fold, ends, value):
    if not isinstance(value, tuple) or not value or not isinstance(value[0], str):
        return False
    if value[0] == "odd":
        return len(value) == 1 and sum(ends.values()) % 2 == 1
    if len(value) != 2:
        return False
    if value[0] == "met":
        return right_fold(net, fold, value[1]) and counted_ends(net, value[1]) == ends
    return value[0] == "lacks" and isinstance(value[1], tuple) and value[1] in below(lacks(net, fold), ends)


def all_rows(places):
    """All rows of lots of these places."""
    if not places:
        return [()]
    rows = []
    for lot in looks.all_lots(places):
        if lot[:1] == places[:1]:
            rest = tuple(place for place in places if place not in lot)
            rows += [tuple(sorted((lot, *row))) for row in all_rows(rest)]
    return rows + all_rows(places[1:])


def proper_rows(places):
    return [row for row in all_rows(places) if row != (places,)]


def right_row(places, value):
    if not isinstance(value, tuple) or not all(isinstance(lot, tuple) and lot in looks.proper_lots(places) for lot in value):
        return False
    tips = [place for lot in value for place in lot]
    return len({*tips}) == len(tips) and [*value] == sorted(value)


def row_sum(told, row):
    return sum(told[lot] for lot in row)


def greatest_row_sum(told, places):
    return max(row_sum(told, row) for row in proper_rows(places))


def all_ends(net, most):
    return [dict(zip(net.places, many)) for many in product(range(most + 1), repeat=len(net.places))]


def enough(net, told, most):
    """All ends with at most so many at a place that are enough for what lots lack."""
    return [ends for ends in all_ends(net, most) if not below(told, ends)]


def fewest_new(net, is_right):
    """The fewest new ties that will do, of all choices."""
    many = 0
    while True:
        for new_ties in combinations_with_replacement(net.pairs, many):
            if is_right(new_ties):
                return many
        many += 1


def cuts_behind(net, new_ties):
    """The cuts of all proper lots, with new ties."""
    ties = [*single_ties(net), *new_ties]
    return {lot: sum((one in lot) != (other in lot) for one, other in ties) for lot in looks.proper_lots(net.places)}


def price(prices, ends):
    return sum(prices[place] * ends[place] for place in ends)


def right_weighing(net, prices, value):
    if not isinstance(value, tuple) or not all(isinstance(item, tuple) and len(item) == 2 for item in value):
        return False
    if not all(looks.is_number(weight) and 1 <= weight <= 1000 and right_row(net.places, row) for weight, row in value):
        return False
    return all(sum(weight for weight, row in value for lot in row if place in lot) <= prices[place] for place in net.places)


def worth(net, fold, told):
    return sum(weight * row_sum(lacks(net, fold), row) for weight, row in told)


def wanted_cut(wants, lot):
    return max(many for (one, other), many in wants.items() if (one in lot) != (other in lot))


def shorts(net, wants):
    """By how much all lots fall short."""
    return {lot: max(0, wanted_cut(wants, lot) - looks.cut(net, lot)) for lot in looks.proper_lots(net.places)}


def right_wants(net, value):
    return (isinstance(value, dict) and sorted(map(repr, value)) == sorted(map(repr, net.pairs))
            and all(looks.is_number(many) and 2 <= many <= 9 for many in value.values()))


def meets(net, wants, new_ties):
    """Whether the value is new ties behind which wants are met."""
    if not right_new_ties(net, new_ties) or behind(net, new_ties) is None:
        return False
    told = looks.numbers(behind(net, new_ties))
    return all(told[pair] >= wants[pair] for pair in wants)
