"""The interface: names, arguments and bases as they stand in it."""

import importlib
import inspect
import unittest

FUNCTIONS = {
    "bits": {"bits_times": "a b", "bits_divided": "a b", "bits_greatest": "a b", "stands_alone": "a"},
    "polys": {"trimmed": "a", "poly_plus": "field a b", "poly_minus": "field a b", "poly_times": "field a b",
              "poly_divided": "field a b", "poly_greatest": "field a b", "value_at": "field a x", "slope": "field a"},
    "roots": {"by_roots": "field some", "roots_of": "field a", "how_often": "field a x", "through": "field points"},
    "tables": {"product": "field one other", "turned": "table", "picked": "table places", "row_by": "field row table",
               "by_column": "field table column", "reduced": "field table", "leads": "rows", "rank": "field table",
               "kernel": "field table"},
    "solving": {"solved": "field table due", "reason": "field table due", "way_back": "field table"},
    "rules": {"keeps": "field row rule", "shortest": "field row", "drawn_out": "field rule begin length"},
    "finder": {"root_sums": "field first extra word", "place_finder": "field places",
               "places_in": "field finder length", "signs_at": "field first places sums"},
    "rootmend": {"root_nearest": "field first extra word"},
    "columns": {"first_bound": "field table", "lightest_row": "field table"},
    "searchmend": {"near_row": "field table room word"},
    "papers": {"lightest": "code", "paper": "code", "is_paper": "code word told"},
    "census": {"census": "code", "crossed_code": "code", "crossed_census": "many counts"},
    "texts": {"bits_of": "text", "text_in": "bits", "laid": "field text", "unlaid": "field signs"},
    "weaving": {"woven": "rows", "unwoven": "signs many", "cut_rows": "signs size"},
}
FIELD_METHODS = {"holds": "x", "plus": "a b", "minus": "a b", "times": "a b", "over": "a b", "power": "a n",
                 "often": "n a", "step_power": "n", "steps": "a", "dot": "xs ys", "told": ""}
CODE_METHODS = {"checks": "", "rows": "", "places": "", "distance": "", "written": "message", "checked": "word",
                "is_word": "word", "nearest": "word", "mended": "word", "read": "word", "told": ""}
CLASSES = {
    ("fields", "BitField", "Field"): ("bits", FIELD_METHODS),
    ("fields", "PrimeField", "Field"): ("prime", FIELD_METHODS),
    ("codes", "RepeatCode", "Code"): ("field length", CODE_METHODS),
    ("rootcodes", "RootCode", "Code"): ("field length extra first=1", dict(CODE_METHODS, maker="")),
    ("checkcodes", "CheckCode", "Code"): ("field table", CODE_METHODS),
    ("lines", "Line", "object"): ("code depth=1", {"sent": "text", "received": "signs", "room": ""}),
    ("desk", "Desk", "object"): ("", {"done": "order"}),
}


def arguments(function):
    return " ".join(str(part) for part in inspect.signature(function).parameters.values())


def part_of(module, name):
    return getattr(importlib.import_module("mendfield." + module), name)


class Interface(unittest.TestCase):
    def test_functions(self):
        for module, functions in FUNCTIONS.items():
            for name, due in functions.items():
                self.assertEqual(arguments(part_of(module, name)), due, (module, name))

    def test_classes(self):
        for (module, name, base), (due, methods) in CLASSES.items():
            one = part_of(module, name)
            self.assertEqual(one.__base__.__name__, base)
            self.assertEqual(arguments(one), due, (module, name))
            for method, parts in methods.items():
                self.assertEqual(arguments(getattr(one, method)), ("self " + parts).strip(), (name, method))

    def test_bases(self):
        self.assertIs(part_of("fields", "BitField").__base__, part_of("fields", "Field"))
        self.assertIs(part_of("rootcodes", "RootCode").__base__, part_of("codes", "Code"))
        self.assertIs(part_of("checkcodes", "CheckCode").__base__, part_of("codes", "Code"))


if __name__ == "__main__":
    unittest.main()
