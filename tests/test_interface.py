"""The interface: every name is there, with its arguments as they stand."""

import importlib
import inspect
import unittest

FUNCTIONS = {
    "terms": {
        "product": "one other", "goes_into": "one other", "left_over": "one other", "meeting": "one other",
        "stand_apart": "one other", "degree": "term"},
    "polys": {
        "poly_of": "ring parts", "plus": "ring f g", "minus": "ring f g", "times": "ring f g",
        "scaled": "ring number term f", "monic": "ring f", "first_term": "ring f", "first_number": "ring f",
        "reach": "ring f", "value": "ring f point", "summed": "ring multiples row"},
    "shows": {"shown": "ring f"},
    "texts": {"read": "ring text"},
    "dividing": {"divided": "ring f row", "brought_down": "ring f row"},
    "crossing": {"crossed": "ring f g", "pairs": "ring row", "is_base": "ring row"},
    "thinning": {"thinned": "ring row"},
    "rooms": {"room": "ring told box", "bare": "ring told box", "is_closed": "ring told box"},
    "completing": {"completed": "ring told box", "least_base": "ring told box"},
    "within": {
        "looked_up": "ring told box poly", "is_within": "ring told box poly", "same_sums": "ring ones others box"},
    "taking": {"taken_out": "ring told box k"},
    "answers": {"nought_at_all": "ring told box poly", "same_answers": "ring ones others box"},
    "corners": {"corner": "ring base", "how_many": "ring told box"},
    "tables": {"table": "ring base at", "least_dependence": "ring base poly"},
    "papers": {"holds": "ring told poly paper", "paper_of": "ring told box poly"},
}
FIELD = {
    "nought": "", "one": "", "made": "top bottom", "plus": "a b", "minus": "a b", "times": "a b", "against": "a",
    "turned": "a", "over": "a b"}
ORDER = {
    "rank": "term", "goes_before": "one other", "falling": "terms", "first_of": "terms", "takes_out": "k", "fits": "many"}
CLASSES = {
    "fields": {"Fractions": ("", FIELD), "Rests": ("prime", FIELD)},
    "orders": {"Order": ("", ORDER), "Degrees": ("", ORDER), "Tails": ("", ORDER), "Weights": ("weights", ORDER)},
    "rings": {"Ring": ("many field order", {"letters": "", "unknown": "at", "constant": "number"})},
    "desk": {"Desk": ("", {"said": "line"})},
}


def arguments(function):
    return " ".join(inspect.signature(function).parameters)


class TheInterface(unittest.TestCase):

    def test_functions(self):
        for module, functions in FUNCTIONS.items():
            for name, expected in functions.items():
                with self.subTest(module=module, name=name):
                    function = getattr(importlib.import_module("idealroom." + module), name)
                    self.assertEqual(arguments(function), expected)

    def test_classes(self):
        for module, classes in CLASSES.items():
            for name, (made_by, methods) in classes.items():
                with self.subTest(module=module, name=name):
                    kind = getattr(importlib.import_module("idealroom." + module), name)
                    self.assertEqual(arguments(kind), made_by)
                    for method, expected in methods.items():
                        self.assertEqual(arguments(getattr(kind, method)), ("self " + expected).strip())

    def test_the_bottom_of_a_number_may_be_left_out(self):
        fields = importlib.import_module("idealroom.fields")
        for kind in (fields.Fractions, fields.Rests):
            self.assertEqual(inspect.signature(kind.made).parameters["bottom"].default, 1)


if __name__ == "__main__":
    unittest.main()
