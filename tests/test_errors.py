"""[1.1], [1.2]: all classes of errors, and what they keep."""

import unittest

from keptways import errors
from tests.samples import DEEP, HUB, LONG_TEXT, Case

OF_NETS = ("InvalidWord", "InvalidNet", "InvalidLot", "InvalidWays", "InvalidGrowth", "InvalidStreets",
           "InvalidRow", "InvalidOperation", "ParseError")
KEEPING = {"UnknownPlace": (KeyError, "asked"), "NoWay": (LookupError, "ends"),
           "NothingToUndo": (IndexError, "amount"), "TooMany": (OverflowError, "limit"),
           "Refused": (ArithmeticError, "cause"), "InvalidNumber": (RuntimeError, "number")}
VALUES = (None, True, False, 0, 1, -5, 10 ** 99, "", "a", "a\nb", LONG_TEXT, (), ("a", "b"), ("fold", 3), [], [1, [2]],
          {}, {"a": 1, ("a", "b"): [2]}, DEEP)


class Bases(Case):

    def test_net_error_is_a_value_error(self):
        self.assertEqual(errors.NetError.__bases__, (ValueError,))

    def test_the_nine_are_directly_derived_from_net_error(self):
        for name in OF_NETS:
            self.assertEqual(getattr(errors, name).__bases__, (errors.NetError,), name)

    def test_none_of_the_nine_is_derived_from_another(self):
        for name in OF_NETS:
            for other in OF_NETS:
                self.assertEqual(issubclass(getattr(errors, name), getattr(errors, other)), name == other)

    def test_the_others_are_directly_derived_from_errors_of_python(self):
        for name, (base, _) in KEEPING.items():
            self.assertEqual(getattr(errors, name).__bases__, (base,), name)
            self.assertFalse(issubclass(getattr(errors, name), errors.NetError))

    def test_they_can_be_caught_by_their_bases(self):
        with self.assertRaises(ValueError):
            raise errors.InvalidLot("no lot")
        with self.assertRaises(LookupError):
            raise errors.UnknownPlace("q")
        with self.assertRaises(ArithmeticError):
            raise errors.TooMany(20)


class Kept(Case):

    def test_messages(self):
        for name in ("NetError", *OF_NETS[:-1]):
            self.assertEqual(str(getattr(errors, name)("why")), "why")

    def test_parse_error_keeps_an_index_or_none(self):
        for line in (0, 1, 60, None):
            self.alike(errors.ParseError(line).line, line)

    def test_the_others_keep_any_value(self):
        for name, (_, attribute) in KEEPING.items():
            for value in VALUES:
                error = getattr(errors, name)(value)
                self.alike(getattr(error, attribute), value)
                self.assertEqual(list(vars(error)), [attribute])

    def test_they_keep_objects_of_the_package(self):
        for name, (_, attribute) in KEEPING.items():
            for value in (HUB, errors.NoWay(1)):
                self.assertIs(getattr(getattr(errors, name)(value), attribute), value)
                self.assertIs(getattr(getattr(errors, name)((value, 1)), attribute)[0], value)

    def test_what_is_kept_is_not_shared(self):
        for name, (_, attribute) in KEEPING.items():
            inner, table, items = [1], {"b": [2]}, [3, [4]]
            value = {"a": (inner, table), "c": items}
            error = getattr(errors, name)(value)
            inner.append(5)
            table["b"].append(6)
            table["d"] = 7
            items[1].append(8)
            items.append(9)
            value["e"] = 10
            self.alike(getattr(error, attribute), {"a": ([1], {"b": [2]}), "c": [3, [4]]})

    def test_each_takes_one_argument(self):
        for name in ("ParseError", *KEEPING):
            self.assertRaises(TypeError, getattr(errors, name))
            self.assertRaises(TypeError, getattr(errors, name), 1, 2)

    def test_their_texts_can_be_made(self):
        for name in ("ParseError", *KEEPING):
            for value in VALUES:
                self.assertIsInstance(str(getattr(errors, name)(value)), str)

    def test_they_can_not_be_iterated_over(self):
        for name in ("ParseError", *KEEPING, *OF_NETS[:-1]):
            self.assertRaises(TypeError, iter, getattr(errors, name)("a"))


if __name__ == "__main__":
    unittest.main()
