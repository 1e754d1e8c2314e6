"""The introduction of the interface: each name in its module, with the arguments that are listed for it."""

import importlib
import inspect
import unittest

from keptways import errors

FUNCTIONS = {
    "keptways.base.words": {"is_integer": "value", "is_word": "value", "is_pair": "value"},
    "keptways.base.lots": {
        "is_lot": "net, value", "opposite": "net, lot", "lots": "net", "corners": "net, one, other", "do_cross": "net, one, other",
        "between": "net, one, other", "excesses": "net, one, other", "is_row": "net, value", "is_nested": "net, value",
        "merged_row": "net, row", "weakest": "net", "lifted": "net, lot, most"},
    "keptways.ways.flows": {
        "number": "net, one, other", "family": "net, one, other", "is_family": "net, one, other, value",
        "nearest_lot": "net, one, other", "farthest_lot": "net, one, other", "least_lots": "net, one, other",
        "number_paper": "net, one, other", "is_number_paper": "net, one, other, value", "most_apart": "net, one, other, many"},
    "keptways.ways.trees": {
        "all_numbers": "net", "cut_tree": "net", "is_cut_tree": "net, value", "least_number": "net", "least_lot": "net",
        "classes": "net, k", "class_lots": "net, k", "numbers_paper": "net", "is_numbers_paper": "net, value"},
    "keptways.ways.tight": {
        "need": "net, lot", "need_beside": "net, place, lot", "spare": "net, place, lot", "tight_lots": "net, place",
        "narrow_lots": "net, place", "barring_lot": "net, place, one, other", "side_by_side": "net, place, lot, other",
        "uncrossed": "net, place, lots"},
    "keptways.past.pairs": {
        "pairs_at": "net, place", "led_past": "net, place, pair", "numbers_beside": "net, place", "does_keep": "net, place, pair",
        "keeping_pairs": "net, place", "losing_lots": "net, place, pair", "keeping_paper": "net, place, pair",
        "is_keeping_paper": "net, place, pair, value"},
    "keptways.past.whole": {
        "steps_net": "net, place, steps", "do_keep": "net, place, steps", "is_ready": "net, place", "partners": "net, place, other",
        "gone_on": "net, place, steps", "whole_past": "net, place", "is_whole_past": "net, place, value", "left_net": "net, place"},
    "keptways.grow.growth": {
        "pinched": "net, place, pairs", "grown": "k, growth", "is_growth": "net, k, value", "holds_all": "net, least",
        "weak_lot": "net, least", "thinned": "net, k", "is_thin": "net, k", "growth_of": "net, k", "growth_paper": "net, k",
        "is_growth_paper": "net, k, value"},
    "keptways.grow.streets": {
        "is_streets": "net, value", "one_way": "net, streets, one, other", "one_way_paper": "net, streets, one, other",
        "is_one_way_paper": "net, streets, one, other, value", "streets_along": "k, growth", "streets_for": "net, k",
        "streets_paper": "net, k", "is_streets_paper": "net, k, value"},
    "keptways.grow.halves": {
        "odd_places": "net", "pairings": "net", "is_pairing": "net, value", "crossing": "pairing, lot", "room_of": "net, lot",
        "is_good_pairing": "net, value", "good_pairing": "net", "crossed_lot": "net, pairing", "is_balanced": "net, streets, arrows",
        "balanced": "net, pairing", "keeps_halves": "net, streets", "losing_pair": "net, streets", "halving_paper": "net",
        "is_halving_paper": "net, value", "halved": "net"},
    "keptways.more.rows": {
        "is_ends": "net, value", "is_new_ties": "net, value", "lack": "net, fold, lot", "greatest_lacks": "net, fold",
        "does_suffice": "net, fold, ends", "lacking_lots": "net, fold, ends", "ends_paper": "net, fold, ends",
        "is_ends_paper": "net, fold, ends, value", "ends_of": "net, new_ties", "with_new": "net, new_ties",
        "least_ends": "net, fold, order", "fewest_ends": "net, fold", "lots_bound": "net, fold", "is_lots_bound": "net, fold, value"},
    "keptways.more.ties": {
        "fewest_ties": "net, fold", "ties_paper": "net, fold", "is_ties_paper": "net, fold, value", "is_prices": "net, value",
        "price_of": "net, prices, ends", "least_price": "net, fold, prices", "cheapest_ends": "net, fold, prices",
        "weighing": "net, fold, prices", "is_weighing": "net, prices, value", "worth": "net, fold, prices, told",
        "price_paper": "net, fold, prices", "is_price_paper": "net, fold, prices, value"},
    "keptways.text.texts": {"write": "form, value", "read": "form, text", "is_written": "form, value"},
    "keptways.more.wants": {
        "is_wants": "net, value", "wanted_cut": "net, wants, lot", "short_by": "net, wants, lot", "are_met": "net, wants",
        "first_unmet": "net, wants", "do_serve": "net, wants, ends", "serving_ends": "net, wants, order", "fewest_for": "net, wants",
        "wants_paper": "net, wants", "is_wants_paper": "net, wants, value", "wants_ends_paper": "net, wants, ends",
        "is_wants_ends_paper": "net, wants, ends, value"},
}
CONSTANTS = {"keptways.base.words": {"MAX_LETTERS": 8}, "keptways.base.nets": {"MAX_PLACES": 9, "MAX_TIES": 60},
             "keptways.past.whole": {"MAX_NETS": 10000}, "keptways.grow.growth": {"MAX_HALF": 30},
             "keptways.more.rows": {"MAX_FOLD": 9, "MAX_ENDS": 60}, "keptways.more.ties": {"MAX_PRICE": 1000},
             "keptways.use.project": {"MAX_PINS": 20}, "keptways.more.wants": {"MAX_WANT": 9}}
# For each class its methods, its properties, and what Python's signs ask of it.
CLASSES = {
    ("keptways.base.nets", "Net"): (
        {"tied": "self, one, other", "degree": "self, place", "near": "self, place", "cut": "self, lot",
         "joined": "self, one, other, many=1", "untied": "self, one, other, many=1", "with_place": "self, place",
         "without_place": "self, place", "merged": "self, lot, name", "part": "self, lot", "renamed": "self, names",
         "groups": "self", "lone_ties": "self", "__init__": "self, places, ties=None"},
        ("places", "ties", "lines", "degrees", "size", "pairs", "odd", "even"),
        ("or", "add", "sub", "and", "contains", "len", "iter", "getitem", "eq", "str")),
    ("keptways.ways.flows", "Ways"): (
        {"turned": "self", "behind": "self, one, other", "uses": "self, one, other", "is_needed": "self, one, other",
         "__init__": "self, net, one, other"},
        ("net", "tips", "total", "shown", "nearest", "farthest"),
        ("contains", "len", "iter", "eq", "str")),
    ("keptways.ways.trees", "CutTree"): (
        {"number_of": "self, one, other", "way": "self, one, other", "narrowest": "self, one, other", "side": "self, index",
         "families": "self", "is_tree_of": "self, net", "__init__": "self, net, rows=None"},
        ("net", "triples"),
        ("getitem", "contains", "len", "iter", "eq", "str")),
    ("keptways.ways.tight", "Needs"): (
        {"of": "self, lot", "spare_of": "self, lot", "kept_by": "self, net", "__init__": "self, net, place"},
        ("net", "place", "numbers", "tight", "narrow"),
        ("contains", "len", "eq", "str")),
    ("keptways.grow.growth", "Growth"): (
        {"net_at": "self, index", "upto": "self, index", "with_tie": "self, one, other", "with_pinch": "self, place, pairs",
         "named": "self, names", "__init__": "self, k, growth"},
        ("half", "first", "steps", "nets", "net", "born"),
        ("contains", "len", "iter", "eq", "str")),
    ("keptways.grow.streets", "Streets"): (
        {"leaving": "self, lot", "coming": "self, lot", "from_to": "self, one, other", "spread": "self", "turned": "self",
         "turned_at": "self, one, other", "turned_along": "self, way", "rounds": "self", "__init__": "self, net, streets"},
        ("net", "arrows", "least"),
        ("contains", "len", "iter", "eq", "str")),
    ("keptways.more.ties", "Plan"): (
        {"left": "self", "useful": "self", "make": "self, one, other", "take_back": "self", "__init__": "self, net, fold"},
        ("net", "fold", "made"),
        ("contains", "len", "iter", "eq", "str")),
    ("keptways.use.project", "Project"): (
        {"tie": "self, one, other, many=1", "untie": "self, one, other, many=1", "add": "self, place", "remove": "self, place",
         "lead": "self, place, pair", "widen": "self, new_ties", "pin": "self, saying", "unpin": "self, saying", "holds": "self, saying",
         "undo": "self, many=1", "redo": "self, many=1", "bridges": "self", "weak": "self", "__init__": "self, net"},
        ("net", "pins", "depth", "news"),
        ("contains", "len", "iter", "eq", "str")),
    ("keptways.text.shell", "Shell"): (
        {"run": "self, line", "run_all": "self, *lines", "__init__": "self"},
        ("net", "past_lines"),
        ("len", "iter", "eq", "str")),
    ("keptways.more.wants", "Wants"): (
        {"with_want": "self, one, other, many", "lowered": "self", "for_net": "self, net", "greater": "self, other", "lesser": "self, other",
         "__init__": "self, net, wants"},
        ("net", "table", "fewest", "short"),
        ("contains", "len", "iter", "eq", "str")),
}
GENERATORS = (("keptways.base.lots", "lots"), ("keptways.grow.halves", "pairings"))
ERRORS = {"NetError": None, "InvalidWord": None, "InvalidNet": None, "InvalidLot": None, "InvalidWays": None,
          "InvalidGrowth": None, "InvalidStreets": None, "InvalidRow": None, "InvalidOperation": None,
          "ParseError": "line", "UnknownPlace": "asked", "NoWay": "ends", "NothingToUndo": "amount", "TooMany": "limit",
          "Refused": "cause", "InvalidNumber": "number"}


def named(module, name):
    return getattr(importlib.import_module(module), name)


class Names(unittest.TestCase):

    def test_errors_stand_in_their_module(self):
        for name, attribute in ERRORS.items():
            self.assertEqual(getattr(errors, name).__module__, "keptways.errors")
            if attribute is not None:
                self.assertEqual(str(inspect.signature(getattr(errors, name))), f"({attribute})")

    def test_functions_stand_in_their_module(self):
        for module, functions in FUNCTIONS.items():
            for name, told in functions.items():
                function = named(module, name)
                self.assertTrue(inspect.isfunction(function), name)
                self.assertEqual((function.__module__, function.__name__), (module, name))
                self.assertEqual(str(inspect.signature(function)), f"({told})", name)

    def test_constants_stand_in_their_module(self):
        for module, constants in CONSTANTS.items():
            for name, value in constants.items():
                self.assertEqual((named(module, name), type(named(module, name))), (value, int))

    def test_the_sign_of_nothing(self):
        self.assertEqual(named("keptways.text.texts", "NOTHING"), "-")

    def test_classes_have_their_methods_themselves(self):
        for (module, name), (methods, properties, signs) in CLASSES.items():
            told = named(module, name)
            self.assertEqual((told.__module__, told.__name__), (module, name))
            for method, given in methods.items():
                self.assertTrue(inspect.isfunction(vars(told)[method]), method)
                self.assertEqual(str(inspect.signature(vars(told)[method])), f"({given})", method)
            for one in properties:
                self.assertIsInstance(vars(told)[one], property, one)
            for sign in signs:
                self.assertTrue(inspect.isfunction(vars(told)[f"__{sign}__"]), sign)
            if "iter" not in signs:
                self.assertFalse(hasattr(told, "__iter__"), name)

    def test_read_is_a_class_method(self):
        read = vars(named("keptways.base.nets", "Net"))["read"]
        self.assertIsInstance(read, classmethod)
        self.assertEqual(str(inspect.signature(read.__func__)), "(cls, *lines)")

    def test_generators(self):
        for module, name in GENERATORS:
            self.assertTrue(inspect.isgeneratorfunction(named(module, name)))
        self.assertTrue(inspect.isgeneratorfunction(named("keptways.ways.trees", "CutTree").families))


if __name__ == "__main__":
    unittest.main()
