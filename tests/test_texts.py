"""Texts of values: write, read, is_written."""

import random
import re
import unittest

from keptways.errors import InvalidOperation, InvalidWord, ParseError
from keptways.text.texts import NOTHING, is_written, read, write
from tests import looks
from tests.samples import FULL, LETTERS, LONG_TEXT, STRANGE, Case

FORMS = ("lot", "pairs", "ways", "tree", "ends", "streets", "growth")
WORD, NUMBER = "[a-z]{1,8}", "(?:0|[1-9][0-9]?)"
ITEMS = {"lot": WORD, "pairs": f"{WORD}-{WORD}", "ways": f"{WORD}(?:>{WORD})+", "tree": f"{WORD}-{WORD}:{NUMBER}",
         "ends": f"{WORD}:{NUMBER}",
         "streets": f"{WORD}>{WORD}:{NUMBER}", "growth": rf"(?:{WORD}|{WORD}\+{WORD}|{WORD}(?:={WORD}-{WORD})+)"}
TOLD = {
    "lot": (((), "-"), (("a",), "a"), (("a", "b", "dock"), "a b dock"), (tuple("abcdefghijkl"), "a b c d e f g h i j k l"),
            (("abcdefgh",), "abcdefgh")),
    "pairs": (((), "-"), ((("a", "b"),), "a-b"), ((("b", "c"), ("a", "a"), ("b", "c")), "b-c a-a b-c"), ((("dock", "pier"),), "dock-pier")),
    "ways": (((), "-"), ((("a", "b"),), "a>b"), ((("b", "a"), ("a", "dock", "c"), ("b", "a")), "b>a a>dock>c b>a"),
             ((tuple("abcdefghijkl"),), "a>b>c>d>e>f>g>h>i>j>k>l")),
    "tree": (((), "-"), ((("a", "b", 3),), "a-b:3"), ((("b", "c", 0), ("a", "dock", 99), ("a", "b", 10)), "b-c:0 a-dock:99 a-b:10")),
    "ends": (({}, "-"), ({"a": 2}, "a:2"), ({"a": 0, "b": 99, "c": 10}, "a:0 b:99 c:10"), ({"dock": 9}, "dock:9")),
    "streets": (({}, "-"), ({("a", "b"): 1}, "a>b:1"), ({("a", "b"): 2, ("b", "a"): 99, ("dock", "a"): 10}, "a>b:2 b>a:99 dock>a:10")),
    "growth": ((("a",), "a"), (("a", ("tie", "a", "b")), "a a+b"), (("a", ("pinch", "b", (("a", "a"),)), ("tie", "b", "a")), "a b=a-a b+a"),
               (("dock", ("pinch", "c", (("a", "a"), ("a", "b"), ("a", "b")))), "dock c=a-a=a-b=a-b"), (("tie",), "tie"),
               (("pinch", ("tie", "tie", "tie")), "pinch tie+tie"))}
NO_FORMS = (*STRANGE, 0, 1, (), "q", "Lot", "lots", "lot ", "tie", "net", FULL, ("lot",))
NO_TEXTS = {
    "lot": (("", 0), ("A", 0), ("a  b", 1), (" a", 0), ("a ", 1), ("a\tb", 0), ("a\n", 0), ("b a", 1), ("a b b", 2), ("a c b", 2),
            ("- -", 0), ("a -", 1), ("abcdefghi", 0),
            ("a b1", 1), ("--", 0), ("a-b", 0), ("a b c C d", 3), ("-a", 0)),
    "pairs": (("", 0), ("a", 0), ("b-a", 0), ("a-b b-a", 1), ("a-b-c", 0), ("a-", 0), ("-b", 0), ("a-b  a-b", 1), ("a-b ", 1), ("a-B", 0),
              ("a-b -", 1), ("a>b", 0), ("a-b:1", 0),
              ("a-b a--b", 1), ("a-a\n", 0)),
    "ways": (("", 0), ("a", 0), ("a>a", 0), ("a>b>a", 0), ("a>b a>", 1), (">a", 0), ("a>>b", 0), ("a-b", 0), ("a>b  b>a", 1), ("a>B", 0),
             ("a>b>c b>c>b a>b", 1), (">", 0)),
    "tree": (("", 0), ("a-b", 0), ("a-b:", 0), ("a-b:100", 0), ("a-b:03", 0), ("a-b:00", 0), ("a-b:-1", 0), ("a-b:+1", 0), ("b-a:1", 0),
             ("a-a:1", 0), ("a-b:1 a-b:x", 1),
             ("a-b:1:2", 0), ("a:1", 0), ("a-b-c:1", 0), ("a-b:1 ", 1), (":1", 0), ("a>b:1", 0), ("a-b: 1", 0), ("a-b:1_0", 0)),
    "ends": (("", 0), ("a", 0), ("a:", 0), (":1", 0), ("a:1 a:1", 1), ("a:1 a:2", 1), ("b:1 a:2", 1), ("a:1 c:1 b:1", 2), ("a:100", 0),
             ("a:01", 0), ("a:-1", 0), ("a:+1", 0), ("a:1:1", 0),
             ("a-b:1", 0), ("a:1  b:1", 1), ("A:1", 0), ("a:1.", 0), ("a:b", 0)),
    "streets": (("", 0), ("a>b", 0), ("a>b:0", 0), ("a>a:1", 0), ("a>b:100", 0), ("a>b:01", 0), ("a-b:1", 0), ("b>a:1 a>b:1", 1),
                ("a>b:1 a>b:1", 1), ("a>b:1 a>b:2", 1), ("a>b>c:1", 0), ("a>b:1 c>b:1 c>a:1", 2),
                ("a:1", 0), ("a>b:", 0), ("a>b:1:1", 0), (">b:1", 0), ("a>b:1 ", 1)),
    "growth": (("", 0), ("-", 0), ("A", 0), ("a+b", 0), ("a b", 1), ("a a+b b", 2), ("a a+b+c", 1), ("a a+", 1), ("a +b", 1),
               ("b=a-a", 0), ("a b=", 1), ("a b=a", 1), ("a b=b-a", 1),
               ("a b=a-a=", 1), ("a =a-a", 1), ("a b==a-a", 1), ("a b=a-a=a", 1), ("a b=a+a", 1), ("a a+b=a-a", 1), ("a  a+b", 1),
               ("a a+b ", 2), ("a -", 1), ("a b=a-b-c", 1), ("a a-b", 1))}
NO_VALUES = {
    "lot": (("b", "a"), ("a", "a"), ("A",), ["a"], "a", {"a": 1}, ("a", 1), (("a",),), ("a", "b", "a"), ("-",), ("",), ("a b",)),
    "pairs": ((("b", "a"),), (("a",),), (("a", "b", "c"),), ("a", "b"), [("a", "b")], (["a", "b"],), (("a", "B"),), (("a", 1),),
              (("a", "b"), None), {("a", "b"): 1}, ("ab",)),
    "ways": ((("a",),), (("a", "a"),), (("a", "b", "a"),), ((),), ("a", "b"), [("a", "b")], (["a", "b"],), (("a", "B"),),
             (("a", "b"), ()), (("a", 1),), ("ab",)),
    "tree": ((("a", "b"),), (("b", "a", 1),), (("a", "a", 1),), (("a", "b", 100),), (("a", "b", -1),), (("a", "b", True),),
             (("a", "b", "1"),), (("a", "b", 1, 1),),
             (["a", "b", 1],), [("a", "b", 1)], (("a", "b", None),), (("a", "b", 10 ** 60),), ("abc",)),
    "ends": ({"A": 1}, {"a": 100}, {"a": -1}, {"a": True}, {"a": None}, {"a": "1"}, {1: 1}, {None: 1}, {"a": 1, 1: 1}, (("a", 1),),
             [("a", 1)], (), {("a", "b"): 1}, {"a": [1]}, {"a": 10 ** 60}),
    "streets": ({("a", "a"): 1}, {("a", "b"): 0}, {("a", "b"): 100}, {("a", "b"): True}, {("a", "b"): -1}, {("a",): 1},
                {("a", "b", "c"): 1}, {"ab": 1}, {"a": 1}, (),
                {("a", "B"): 1}, {("a", "b"): None}, {("a", "b"): 1, None: 1}, {("a", "b"): 1, ("a", 1): 1}, [("a", "b")],
                {("a", "b"): 1, (1, (2,)): 1}),
    "growth": ((), ("A",), ["a"], "a", ("a", "b"), ("a", ("tie", "a")), ("a", ("tie", "a", "b", "c")), ("a", ("tie", "a", "B")),
               ("a", ["tie", "a", "b"]), ("a", ("pinch", "b", ())),
               ("a", ("pinch", "b", [("a", "a")])), ("a", ("pinch", "b", (("b", "a"),))), ("a", ("pinch", "B", (("a", "a"),))),
               ("a", ("Tie", "a", "b")),
               (("tie", "a", "b"),), (("tie", "a", "b"), "a"), ("a", ("pinch", "b", "a-a")), ("a", ("pinch", "b", (("a",),))),
               ("a", ("pinch", "b", None)), ("a", None), (1,),
               ("a", ("pinch", "b", (("a", "a"), ("a", "a", "a")))), ("a", ("tie", "a", ("b",))), (("a",),))}


def drawn_value(draw, form):
    """A value of a form."""
    words = draw.sample([*LETTERS, "dock", "pier", "tie", "pinch", "abcdefgh"], 6)
    pairs = [tuple(sorted(draw.choices(words, k=2))) for _ in range(draw.randint(0, 4))]
    if form == "lot":
        return tuple(sorted(words[:draw.randint(0, 6)]))
    if form == "pairs":
        return tuple(pairs)
    if form == "ways":
        return tuple(tuple(draw.sample(words, draw.randint(2, 6))) for _ in pairs)
    if form == "tree":
        return tuple((*sorted(draw.sample(words, 2)), draw.randint(0, 99)) for _ in pairs)
    if form == "ends":
        return {word: draw.randint(0, 99) for word in sorted(words)[:draw.randint(0, 6)]}
    if form == "streets":
        return {key: draw.randint(1, 99) for key in sorted({tuple(draw.sample(words, 2)) for _ in pairs})}
    steps = [draw.choice((("tie", *draw.sample(words, 2)), ("pinch", words[0], tuple(pairs) or (("a", "a"),)))) for _ in pairs]
    return (words[0], *steps)


def right_item(form, item):
    """Whether a text is an item of a form, by what is between its signs."""
    if not re.fullmatch(ITEMS[form], item):
        return False
    words = re.findall("[a-z]+", item)
    if form in ("tree", "ways", "streets") and (len({*words}) < len(words) or form == "tree" and words != sorted(words)):
        return False
    if form == "growth" and "=" in item:
        return all(words[at] <= words[at + 1] for at in range(1, len(words), 2))
    return not (form == "pairs" and words[0] > words[1]) and not (form == "streets" and item.endswith(":0"))


def wrong_item(form, text):
    """The index of the first wrong item, or None."""
    if text == "-" and form != "growth":
        return None
    before = None
    for at, item in enumerate(re.split(" ", text)):
        key = tuple(re.findall("[a-z]+", item))
        if not right_item(form, item) or (form in ("lot", "ends", "streets") and at and not before < key):
            return at
        if form == "growth" and (at == 0) != (len(key) == 1):
            return at
        before = key
    return None


class Texts(Case):

    def test_told_texts(self):
        self.assertEqual(NOTHING, "-")
        for form in FORMS:
            for value, text in TOLD[form]:
                self.alike(write(form, value), text)
                self.alike(read(form, text), value)
                self.assertIs(is_written(form, text), True)
                self.assertIsNone(wrong_item(form, text))

    def test_each_is_the_inverse_of_the_other(self):
        draw = random.Random(9)
        for form in FORMS:
            for _ in range(150):
                value = drawn_value(draw, form)
                text = write(form, value)
                self.alike(read(form, text), value)
                self.alike(write(form, read(form, text)), text)
                self.assertIs(is_written(form, text), True)

    def test_dicts_are_written_in_order(self):
        self.alike(write("ends", {"b": 1, "a": 2, "dock": 3, "c": 0}), "a:2 b:1 c:0 dock:3")
        self.alike(write("streets", {("b", "a"): 1, ("a", "c"): 2, ("a", "b"): 3}), "a>b:3 a>c:2 b>a:1")
        self.alike(list(read("ends", "a:2 b:1 c:0")), ["a", "b", "c"])
        self.alike(list(read("streets", "a>b:3 a>c:2 b>a:1")), [("a", "b"), ("a", "c"), ("b", "a")])
        value = {"b": 1, "a": 2}
        write("ends", value)
        self.alike(value, {"b": 1, "a": 2})

    def test_no_texts(self):
        for form in FORMS:
            for text, index in NO_TEXTS[form]:
                self.alike(self.refused(ParseError, read, form, text).line, index)
                self.assertIs(is_written(form, text), False)
                self.alike(wrong_item(form, text), index)
            for value in (*STRANGE, 1, (), ("a",), FULL, ["a"], {}):
                self.assertIs(is_written(form, value), False)
                if not isinstance(value, str):
                    self.assertIsNone(self.refused(ParseError, read, form, value).line)

    def test_other_digits(self):
        for digit in ("\u0663", "\u00b2", "\uff11"):
            self.assertIs(is_written("ends", f"a:{digit}"), False)
            self.alike(self.refused(ParseError, read, "tree", f"a-b:{digit}").line, 0)
        self.assertIs(is_written("lot", "\u00e4"), False)

    def test_bent_texts(self):
        draw = random.Random(4)
        for form in FORMS:
            for _, text in TOLD[form]:
                for at in range(len(text) + 1):
                    for sign in ("", " ", "-", ">", ":", "=", "+", "a", "z", "0", "1", "A", "\n"):
                        for bent in (text[:at] + sign + text[at:], text[:at] + sign + text[at + 1:]):
                            wrong = wrong_item(form, bent)
                            self.assertIs(is_written(form, bent), wrong is None, (form, bent))
                            if wrong is None:
                                self.alike(write(form, read(form, bent)), bent)
                            else:
                                self.alike(self.refused(ParseError, read, form, bent).line, wrong)
            for _ in range(200):
                text = "".join(draw.choices("ab-:>=+ 01", k=draw.randint(0, 9)))
                self.assertIs(is_written(form, text), wrong_item(form, text) is None, (form, text))

    def test_long_texts(self):
        self.alike(self.refused(ParseError, read, "lot", LONG_TEXT).line, 2)
        self.alike(self.refused(ParseError, read, "ways", LONG_TEXT).line, 0)
        pairs = (("a", "b"),) * 2200
        self.alike(read("pairs", write("pairs", pairs)), pairs)
        self.alike(self.refused(ParseError, read, "pairs", write("pairs", pairs) + " b-a").line, 2200)

    def test_no_values(self):
        for form in FORMS:
            for value in NO_VALUES[form]:
                self.refused(InvalidOperation, write, form, value)
            for value in (*STRANGE, 0, 1, "q", FULL, None):
                if value not in [told for told, _ in TOLD[form]]:
                    self.refused(InvalidOperation, write, form, value)
        for form in ("lot", "pairs", "ways", "tree", "growth"):
            self.refused(InvalidOperation, write, form, {})
            self.refused(InvalidOperation, write, form, [])

    def test_bent_values(self):
        for form in FORMS:
            for value, _ in TOLD[form]:
                for bent in looks.bends(value):
                    try:
                        text = write(form, bent)
                    except InvalidOperation:
                        continue
                    self.assertIsNone(wrong_item(form, text))
                    self.alike(read(form, text), dict(sorted(bent.items())) if isinstance(bent, dict) else bent)

    def test_no_forms(self):
        for value in NO_FORMS:
            self.refused(InvalidWord, write, value, None)
            self.refused(InvalidWord, read, value, None)
            self.refused(InvalidWord, is_written, value, None)


if __name__ == "__main__":
    unittest.main()
