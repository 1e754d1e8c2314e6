"""Nets: places, and how many ties each two of them have."""

from keptways.base.words import ascends, is_integer, is_pair, is_word
from keptways.errors import InvalidLot, InvalidNet, InvalidNumber, InvalidOperation
from keptways.errors import InvalidWord, ParseError, UnknownPlace

MAX_PLACES = 9
MAX_TIES = 60


def ordered(one, other):
    """Two places as a pair, the lesser one first."""
    return (one, other) if one < other else (other, one)


def pairs_of(places):
    """All pairs of ascending places, ascending."""
    return tuple([(one, other) for one in places for other in places if one < other])


def tally(items):
    """The dict from the different ones of these items to how often each stands among them."""
    many = {}
    for item in items:
        many[item] = many.get(item, 0) + 1
    return many


def makes_lot(places, value):
    """Whether the value is a lot of these places."""
    return isinstance(value, tuple) and all([place in places for place in value]) and ascends(value)


def _are_places(value):
    """Whether the value is a tuple of places that a net can have."""
    return (isinstance(value, tuple) and 1 <= len(value) <= MAX_PLACES
            and all([is_word(place) for place in value]) and len(set(value)) == len(value))


def _are_ties(places, value):
    """Whether the value is a dict of ties that a net with these places can have."""
    return (isinstance(value, dict)
            and all([is_pair(pair) and pair[0] in places and pair[1] in places for pair in value])
            and all([is_integer(value[pair]) and value[pair] >= 1 for pair in value])
            and sum(value.values()) <= MAX_TIES)


def are_names(places, value):
    """Whether the value is a dict from just these places to different words."""
    return (isinstance(value, dict) and len(value) == len(places)
            and all([place in value and is_word(value[place]) for place in places])
            and len({value[place] for place in places}) == len(places))


def _tells_places(line):
    """Whether the line is a first line: it tells the places of a net."""
    if not isinstance(line, str):
        return False
    words = line.split(" ")
    return all([is_word(word) for word in words]) and ascends(words)


def _tells_ties(line):
    """Whether the line is a further line: it tells the ties of two places."""
    if not isinstance(line, str):
        return False
    parts = line.split(" ")
    return (len(parts) == 3 and is_pair((parts[0], parts[1]))
            and parts[2] in [str(many) for many in range(1, 100)])


def _groups(places, ties):
    """The lots of places that hang together by the ties."""
    # Each place is told by the least place of its group.
    least = {place: place for place in places}
    for one, other in ties:
        low, high = ordered(least[one], least[other])
        least = {place: low if least[place] == high else least[place] for place in places}
    return tuple([tuple([place for place in places if least[place] == head])
                  for head in places if least[head] == head])


def _net_of(places, counts):
    """The net with these places, and with the counts above 0 as ties."""
    return Net(tuple(places), {pair: counts[pair] for pair in counts if counts[pair] > 0})


def _check_operand(value):
    """Refuse what is no net as an operand."""
    if not isinstance(value, Net):
        raise InvalidOperation("an operand is no net")


def check_net(value):
    """Refuse what is no net."""
    if not isinstance(value, Net):
        raise InvalidNet("there is no net")


def check_place(net, place):
    """Refuse what is no place of the net."""
    if place not in net.places:
        raise UnknownPlace(place)


def check_lot(net, lot):
    """Refuse what is no lot of the net."""
    if not makes_lot(net.places, lot):
        raise InvalidLot("there is no such lot")


class Net:
    """Places, and ties between them. A net never changes."""

    def __init__(self, places, ties=None):
        counts = {} if ties is None else ties
        if not _are_places(places) or not _are_ties(places, counts):
            raise InvalidNet("there is no net with these places and ties")
        self._places = tuple(sorted(places))
        self._ties = {pair: counts[pair] for pair in sorted(counts)}

    @classmethod
    def read(cls, *lines):
        """The net with these lines, as they are told by `lines`."""
        if not lines or not _tells_places(lines[0]):
            raise ParseError(0)
        ties = {}
        ahead = ()
        for index, line in enumerate(lines[1:], start=1):
            if not _tells_ties(line):
                raise ParseError(index)
            one, other, many = line.split(" ")
            if (one, other) <= ahead:
                raise ParseError(index)
            ahead = (one, other)
            ties[ahead] = int(many)
        return cls(tuple(lines[0].split(" ")), ties)

    @property
    def places(self):
        """The places, ascending."""
        return self._places

    @property
    def ties(self):
        """The dict from the pairs that are tied to their numbers of ties."""
        return {pair: self._ties[pair] for pair in self._ties}

    @property
    def lines(self):
        """The lines by which `read` makes this net."""
        further = [f"{one} {other} {many}" for (one, other), many in self._ties.items()]
        return (" ".join(self._places), *further)

    @property
    def degrees(self):
        """The dict from the places to how many ties each has."""
        return {place: self.degree(place) for place in self._places}

    @property
    def size(self):
        """The number of all ties."""
        return sum(self._ties.values())

    @property
    def pairs(self):
        """All pairs of places, tied or not."""
        return pairs_of(self._places)

    @property
    def odd(self):
        """The places with an odd number of ties."""
        return tuple([place for place in self._places if self.degree(place) % 2 == 1])

    @property
    def even(self):
        """The places with an even number of ties."""
        return tuple([place for place in self._places if self.degree(place) % 2 == 0])

    def tied(self, one, other):
        """How many ties join two places."""
        self._check_place(one)
        self._check_place(other)
        return self._many(ordered(one, other))

    def degree(self, place):
        """How many ties a place has."""
        self._check_place(place)
        return sum([self._ties[pair] for pair in self._ties if place in pair])

    def near(self, place):
        """The places that are tied to a place."""
        self._check_place(place)
        return tuple([other for other in self._places if self._many(ordered(place, other)) > 0])

    def cut(self, lot):
        """The number of ties that leave a lot."""
        self._check_lot(lot, 0)
        return sum([self._ties[pair] for pair in self._ties if (pair[0] in lot) != (pair[1] in lot)])

    def joined(self, one, other, many=1):
        """The net with so many ties more between two places."""
        self._check_two(one, other)
        if not is_integer(many) or many < 0:
            raise InvalidNumber(many)
        return self._changed(one, other, many)

    def untied(self, one, other, many=1):
        """The net with so many ties less between two places."""
        self._check_two(one, other)
        if not is_integer(many) or not 0 <= many <= self.tied(one, other):
            raise InvalidNumber(many)
        return self._changed(one, other, -many)

    def with_place(self, place):
        """The net with a place more, without ties."""
        if not is_word(place):
            raise InvalidWord("a place is a word")
        return _net_of([*self._places, place], self._ties)

    def without_place(self, place):
        """The net without a place and its ties."""
        self._check_place(place)
        return self._within([other for other in self._places if other != place])

    def merged(self, lot, name):
        """The net with one place of this name for all places of a lot."""
        self._check_lot(lot, 1)
        if not is_word(name):
            raise InvalidWord("a name is a word")
        if name in self._places and name not in lot:
            raise InvalidNet("the name is a place outside of the lot")
        return self._called({place: name if place in lot else place for place in self._places})

    def part(self, lot):
        """The net with the places of a lot and the ties between them."""
        self._check_lot(lot, 1)
        return self._within(lot)

    def renamed(self, names):
        """The net with other places."""
        if not are_names(self._places, names):
            raise InvalidOperation("names lead from just the places to different words")
        return self._called(names)

    def groups(self):
        """The lots of places that hang together by ties."""
        return _groups(self._places, self._ties)

    def lone_ties(self):
        """The pairs with just one tie, without which there are more groups."""
        many = len(self.groups())
        return tuple([(one, other) for one, other in self._ties
                      if self._many((one, other)) == 1 and len(self.untied(one, other).groups()) > many])

    def __or__(self, other):
        """All places of both, and for each pair the greater number of ties."""
        _check_operand(other)
        places = self._with_places_of(other)
        return _net_of(places, {pair: max(self._many(pair), other._many(pair)) for pair in pairs_of(places)})

    def __add__(self, other):
        """All places of both, and for each pair the sum of ties."""
        _check_operand(other)
        places = self._with_places_of(other)
        return _net_of(places, {pair: self._many(pair) + other._many(pair) for pair in pairs_of(places)})

    def __sub__(self, other):
        """The places of this net, and for each pair its ties less those of the other one."""
        _check_operand(other)
        return _net_of(self._places, {pair: self._ties[pair] - other._many(pair) for pair in self._ties})

    def __and__(self, other):
        """The places that are in both, and for each pair the lesser number of ties."""
        _check_operand(other)
        places = [place for place in self._places if place in other._places]
        if not places:
            raise InvalidOperation("no place is in both nets")
        return _net_of(places, {pair: min(self._many(pair), other._many(pair)) for pair in pairs_of(places)})

    # Where the left operand is no net, Python asks the right one: without these
    # methods it would raise an error of its own.

    def __ror__(self, other):
        raise InvalidOperation("the left operand is no net")

    def __radd__(self, other):
        raise InvalidOperation("the left operand is no net")

    def __rsub__(self, other):
        raise InvalidOperation("the left operand is no net")

    def __rand__(self, other):
        raise InvalidOperation("the left operand is no net")

    def __contains__(self, value):
        return value in self._places

    def __len__(self):
        return len(self._places)

    def __iter__(self):
        return iter(self._places)

    def __getitem__(self, place):
        self._check_place(place)
        return {other: self._many(ordered(place, other)) for other in self.near(place)}

    def __eq__(self, other):
        return isinstance(other, Net) and self._places == other._places and self._ties == other._ties

    def __str__(self):
        return f"{len(self._places)} places, {self.size} ties"

    def _check_place(self, place):
        """Refuse what is no place."""
        if place not in self._places:
            raise UnknownPlace(place)

    def _check_two(self, one, other):
        """Refuse what are not two different places."""
        self._check_place(one)
        self._check_place(other)
        if one == other:
            raise InvalidOperation("there is no tie from a place to itself")

    def _check_lot(self, lot, least):
        """Refuse what is no lot with at least so many places."""
        if not makes_lot(self._places, lot) or len(lot) < least:
            raise InvalidLot("there is no such lot")

    def _many(self, pair):
        """The number of ties of a pair of words, 0 if they are not tied here."""
        return self._ties.get(pair, 0)

    def _changed(self, one, other, change):
        """The net with this number added to the ties of two places."""
        pair = ordered(one, other)
        counts = {key: self._ties[key] for key in self._ties}
        counts[pair] = self._many(pair) + change
        return _net_of(self._places, counts)

    def _within(self, places):
        """The net with just these places of it, and the ties between them."""
        return _net_of(places, {pair: self._ties[pair] for pair in self._ties
                                if pair[0] in places and pair[1] in places})

    def _called(self, names):
        """The net with these names for places; places of one name are made one."""
        ties = {}
        for one, other in self._ties:
            if names[one] != names[other]:
                pair = ordered(names[one], names[other])
                ties[pair] = ties.get(pair, 0) + self._ties[one, other]
        return _net_of(sorted({names[place] for place in names}), ties)

    def _with_places_of(self, other):
        """The places of this net and of another one, ascending."""
        return sorted([*self._places, *[place for place in other._places if place not in self._places]])
