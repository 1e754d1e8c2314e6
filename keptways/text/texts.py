"""Texts: values of seven forms, told by items with blanks between them."""

from keptways.base.words import is_integer, is_pair, is_word
from keptways.errors import InvalidOperation, InvalidWord, ParseError

NOTHING = "-"

_MAX_NUMBER = 99


def _is_number(value, least):
    """Whether the value is a number that has a text, and is not less than the least one."""
    return is_integer(value) and least <= value <= _MAX_NUMBER


def read_number(text):
    """The number that a text tells, or None."""
    return int(text) if text in [str(many) for many in range(_MAX_NUMBER + 1)] else None


def _are_words(value, size):
    """Whether the value is a tuple of so many words."""
    return isinstance(value, tuple) and len(value) == size and all([is_word(word) for word in value])


# Each form has a check of an item, its text, and what a text that may be one is
# split into; the check tells then whether that is an item. The items of a dict
# are tuples of what a key has, and of the number.


def _is_place(value):
    """Whether the value is an item of a lot."""
    return is_word(value)


def _place_text(place):
    """The text of an item of a lot."""
    return place


def _split_place(text):
    """What may be an item of a lot."""
    return text


def _is_told_pair(value):
    """Whether the value is an item of pairs."""
    return _are_words(value, 2) and value[0] <= value[1]


def _pair_text(pair):
    """The text of an item of pairs."""
    return "-".join(pair)


def _split_pair(text):
    """What may be an item of pairs."""
    return tuple(text.split("-"))


def _is_told_way(value):
    """Whether the value is an item of ways."""
    return (isinstance(value, tuple) and len(value) >= 2 and _are_words(value, len(value))
            and len(set(value)) == len(value))


def _way_text(way):
    """The text of an item of ways."""
    return ">".join(way)


def _split_way(text):
    """What may be an item of ways."""
    return tuple(text.split(">"))


def _is_branch(value):
    """Whether the value is an item of a tree."""
    return isinstance(value, tuple) and len(value) == 3 and is_pair(value[:2]) and _is_number(value[2], 0)


def _branch_text(branch):
    """The text of an item of a tree."""
    return f"{branch[0]}-{branch[1]}:{branch[2]}"


def _split_branch(text):
    """What may be an item of a tree."""
    tips, _, many = text.partition(":")
    return (*tips.split("-"), read_number(many))


def _is_end(value):
    """Whether the value is an item of ends."""
    return is_word(value[0]) and _is_number(value[1], 0)


def _end_text(end):
    """The text of an item of ends."""
    return f"{end[0]}:{end[1]}"


def _split_end(text):
    """What may be an item of ends."""
    place, _, many = text.partition(":")
    return place, read_number(many)


def _is_street(value):
    """Whether the value is an item of streets."""
    return len(value) == 3 and _are_words(value[:2], 2) and value[0] != value[1] and _is_number(value[2], 1)


def _street_text(street):
    """The text of an item of streets."""
    return f"{street[0]}>{street[1]}:{street[2]}"


def _split_street(text):
    """What may be an item of streets."""
    tips, _, many = text.partition(":")
    return (*tips.split(">"), read_number(many))


def _is_step(value):
    """Whether the value is an item of a growth, be it the first one or not."""
    if not isinstance(value, tuple) or len(value) != 3:
        return is_word(value)
    if value[0] == "tie":
        return _are_words(value[1:], 2)
    pairs = value[2]
    return (value[0] == "pinch" and is_word(value[1]) and isinstance(pairs, tuple) and len(pairs) > 0
            and all([_is_told_pair(pair) for pair in pairs]))


def _step_text(step):
    """The text of an item of a growth."""
    if isinstance(step, str):
        return step
    word, place, told = step
    return f"{place}+{told}" if word == "tie" else "=".join([place, *[_pair_text(pair) for pair in told]])


def _split_step(text):
    """What may be an item of a growth."""
    place, *told = text.split("=")
    if len(told) > 0:
        return "pinch", place, tuple([_split_pair(pair) for pair in told])
    return ("tie", *text.split("+")) if "+" in text else text


_FORMS = ("lot", "pairs", "ways", "tree", "ends", "streets", "growth")

_CHECKS = {"lot": _is_place, "pairs": _is_told_pair, "ways": _is_told_way, "tree": _is_branch, "ends": _is_end,
           "streets": _is_street, "growth": _is_step}

_TEXTS = {"lot": _place_text, "pairs": _pair_text, "ways": _way_text, "tree": _branch_text, "ends": _end_text,
          "streets": _street_text, "growth": _step_text}

_SPLITS = {"lot": _split_place, "pairs": _split_pair, "ways": _split_way, "tree": _split_branch, "ends": _split_end,
           "streets": _split_street, "growth": _split_step}


def _check_form(form):
    """Refuse what is no word of a form."""
    if form not in _FORMS:
        raise InvalidWord("there is no such form")


def _items_of(form, value):
    """The list of what may be the items of a value, or None if it surely has not this form."""
    if form == "ends":
        if not isinstance(value, dict) or not all([is_word(place) for place in value]):
            return None
        return [(place, value[place]) for place in sorted(value)]
    if form == "streets":
        if not isinstance(value, dict) or not all([_are_words(tips, 2) for tips in value]):
            return None
        return [(*tips, value[tips]) for tips in sorted(value)]
    return [item for item in value] if isinstance(value, tuple) and (form != "growth" or len(value) > 0) else None


def _comes_behind(form, ahead, item):
    """Whether an item can stand behind the one ahead."""
    if form == "lot":
        return ahead < item
    if form == "ends":
        return ahead[0] < item[0]
    if form == "streets":
        return ahead[:2] < item[:2]
    # A growth has its first place first, and only there.
    return form != "growth" or isinstance(item, tuple)


def _first_wrong(form, items):
    """The index of the first thing that is no item, or does not stand where it can; or None."""
    is_item = _CHECKS[form]
    for index, item in enumerate(items):
        if not is_item(item):
            return index
        if index == 0 and form == "growth" and isinstance(item, tuple):
            return index
        if index > 0 and not _comes_behind(form, items[index - 1], item):
            return index
    return None


def write(form, value):
    """The text of a value of a form."""
    _check_form(form)
    items = _items_of(form, value)
    if items is None or _first_wrong(form, items) is not None:
        raise InvalidOperation("the value has not this form")
    told = _TEXTS[form]
    return " ".join([told(item) for item in items]) if len(items) > 0 else NOTHING


def _split(form, text):
    """The list of what may be the items that a text tells."""
    if text == NOTHING and form != "growth":
        return []
    split_item = _SPLITS[form]
    return [split_item(part) for part in text.split(" ")]


def read(form, text):
    """The value of a text of a form."""
    _check_form(form)
    if not isinstance(text, str):
        raise ParseError(None)
    items = _split(form, text)
    wrong = _first_wrong(form, items)
    if wrong is not None:
        raise ParseError(wrong)
    if form == "ends":
        return {place: many for place, many in items}
    if form == "streets":
        return {(one, other): many for one, other, many in items}
    return tuple(items)


def is_written(form, value):
    """Whether the value is a text of the form."""
    _check_form(form)
    return isinstance(value, str) and _first_wrong(form, _split(form, value)) is None
