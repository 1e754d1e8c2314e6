"""All errors of the package."""


def _copied(value):
    """The value, with new lists and dicts for those in it."""
    if isinstance(value, list):
        return [_copied(item) for item in value]
    if isinstance(value, tuple):
        return tuple([_copied(item) for item in value])
    if isinstance(value, dict):
        return {key: _copied(value[key]) for key in value}
    return value


class NetError(ValueError):
    """What is wrong with words, nets and what belongs to them."""


class InvalidWord(NetError):
    """What should be a word is none."""


class InvalidNet(NetError):
    """There is no such net."""


class InvalidLot(NetError):
    """What should be a lot is none."""


class InvalidWays(NetError):
    """What should be ways, or a tree of cuts, is none."""


class InvalidGrowth(NetError):
    """There is no such growth."""


class InvalidStreets(NetError):
    """What should be streets of a net is none."""


class InvalidRow(NetError):
    """What should be a row, such as a row of lots or ends, is none."""


class InvalidOperation(NetError):
    """What is asked for can't be done with these things."""


class ParseError(NetError):
    """A line or an item of a text is none; `line` is its index, or None."""

    def __init__(self, line):
        super().__init__("there is no line, or one that can't be read")
        self.line = line


# The errors below keep any value, so they keep a copy: a caller that changes
# a list or a dict afterwards does not change what the error tells.


class UnknownPlace(KeyError):
    """There is no such place; `asked` is what was asked for."""

    def __init__(self, asked):
        super().__init__("no such place")
        self.asked = _copied(asked)


class NoWay(LookupError):
    """There is nothing of the kind that is looked for; `ends` tells where."""

    def __init__(self, ends):
        super().__init__("there is none")
        self.ends = _copied(ends)


class NothingToUndo(IndexError):
    """There are fewer changes; `amount` is how many were asked for."""

    def __init__(self, amount):
        super().__init__("there are not so many changes")
        self.amount = _copied(amount)


class TooMany(OverflowError):
    """There would be more than may be; `limit` is how many may be."""

    def __init__(self, limit):
        super().__init__("there are too many")
        self.limit = _copied(limit)


class Refused(ArithmeticError):
    """A change is refused; `cause` is what stands against it."""

    def __init__(self, cause):
        super().__init__("a pinned saying does not hold")
        self.cause = _copied(cause)


class InvalidNumber(RuntimeError):
    """A number is none that may stand here; `number` is what was passed."""

    def __init__(self, number):
        super().__init__("no number that may stand here")
        self.number = _copied(number)
