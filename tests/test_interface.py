"""The interface: each name stands in the file that lists it, with the arguments that it lists."""

import inspect
import unittest

from filterorders import again, bounds, desk, facts, formulas, pieces, polynomials, questions, ratios, roots, tables

FUNCTIONS = {
    ratios: {"as_ratio": "given", "sign": "number"},
    polynomials: {"common": "one other", "single": "polynomial"},
    roots: {
        "root_count": "polynomial low high", "roots": "polynomial low high", "cells": "polynomials low high",
        "nowhere_below": "polynomial", "angle": "m", "angle_in": "low high",
    },
    formulas: {"opposite": "formula"},
    tables: {
        "is_filter": "table", "filter_of": "length beams", "held": "table", "meet": "p q", "joined": "p q",
        "value": "formula p q", "line": "name", "plane": "m", "beside": "pair other", "same": "one other",
        "parting": "one other",
    },
    pieces: {
        "pieces": "p q", "counts": "p q", "angles": "p q", "alike": "one other", "traces": "p q", "unlike": "one other",
        "pair_of": "counts numbers", "turn_table": "length first second m", "turned": "pair table",
    },
    bounds: {
        "reading": "formula p q beam", "shape": "formula", "never_negative": "formula", "counter": "formula",
        "at_most": "formula number", "strength_at_most": "formula number",
    },
    questions: {
        "share": "row p q beam", "row_formula": "row", "plain_row": "row", "same_share": "row other", "at_least": "row other",
        "less": "row other", "outcomes": "questions", "chance": "rows p q beam", "chance_formula": "rows",
        "same_chance": "rows others", "chance_at_least": "rows others", "parted_chance": "rows others", "chance_less": "rows others",
    },
    again: {
        "rounds": "p q n", "greatest_angle": "p q", "rest_at_most": "p q n share", "slow_beam": "p q n share",
        "enough_rounds": "p q share most",
    },
    desk: {"read_desk": "text"},
}
METHODS = {
    ratios.Ratio: {
        "__init__": "self top bottom", "read": "text", "over": "self number", "text": "self", "__add__": "self other",
        "__sub__": "self other", "__mul__": "self other", "__neg__": "self", "__eq__": "self other", "__lt__": "self other",
        "__le__": "self other",
    },
    polynomials.Polynomial: {
        "__init__": "self numbers", "terms": "self", "__len__": "self", "__eq__": "self other", "__add__": "self other",
        "__sub__": "self other", "__mul__": "self other", "__neg__": "self", "worth": "self number", "slope": "self",
        "parted": "self other",
    },
    roots.Root: {
        "__init__": "self polynomial low high", "narrowed": "self width", "sign_of": "self polynomial", "against": "self number",
        "__eq__": "self other", "__lt__": "self other",
    },
    formulas.Formula: {
        "__init__": "self terms", "read": "text", "terms": "self", "__eq__": "self other", "__add__": "self other",
        "__sub__": "self other", "__mul__": "self other", "__neg__": "self", "times": "self number", "mirror": "self",
        "is_mirror": "self", "degree": "self", "text": "self",
    },
    tables.Table: {
        "__init__": "self rows", "unit": "length", "rows": "self", "__len__": "self", "__eq__": "self other",
        "__add__": "self other", "__sub__": "self other", "__mul__": "self other", "mirror": "self", "trace": "self",
        "sent": "self beam",
    },
    facts.Facts: {
        "__init__": "self nothing never_negative not_nothing somewhere_negative", "lines": "self", "allows": "self number",
        "clashes": "self", "verdict": "self formula sign_only", "model": "self formula holds sign_only", "stretches": "self",
    },
    desk.Desk: {
        "__init__": "self p q beam", "ask": "self answer", "__len__": "self", "answers": "self", "beam": "self", "share": "self",
        "chance": "self row", "sure": "self", "undo": "self", "redo": "self", "trial": "self", "supposed": "self row other",
        "text": "self",
    },
}
PROPERTIES = {
    ratios.Ratio: ["top", "bottom"], roots.Root: ["polynomial", "low", "high"],
    facts.Facts: ["nothing", "never_negative", "not_nothing", "somewhere_negative"],
}
BY_NAME_ALONE = {
    facts.Facts.__init__: ["nothing", "never_negative", "not_nothing", "somewhere_negative"], facts.Facts.verdict: ["sign_only"],
    facts.Facts.model: ["sign_only"],
}


def names_of(function):
    return " ".join(inspect.signature(function).parameters)


class InterfaceTest(unittest.TestCase):
    def test_functions(self):
        for module, functions in FUNCTIONS.items():
            for name, arguments in functions.items():
                with self.subTest(name):
                    function = getattr(module, name)
                    self.assertEqual((function.__module__, names_of(function)), (module.__name__, arguments))

    def test_methods_stand_in_the_class_itself(self):
        for made, methods in METHODS.items():
            for name, arguments in methods.items():
                with self.subTest(made.__name__ + " " + name):
                    self.assertIn(name, vars(made))
                    self.assertEqual(names_of(getattr(made, name)), arguments)

    def test_arguments_by_name_alone(self):
        functions = [function for functions in FUNCTIONS for function in vars(functions).values() if inspect.isfunction(function)]
        functions += [getattr(made, name) for made, methods in METHODS.items() for name in methods]
        for function in functions:
            found = [item.name for item in inspect.signature(function).parameters.values() if item.kind == item.KEYWORD_ONLY]
            self.assertEqual(found, BY_NAME_ALONE.get(function, []))
        for function, names in BY_NAME_ALONE.items():
            wanted = False if names == ["sign_only"] else ()
            self.assertEqual([inspect.signature(function).parameters[name].default for name in names], [wanted] * len(names))

    def test_properties(self):
        for made, names in PROPERTIES.items():
            for name in names:
                self.assertIsInstance(vars(made)[name], property)

    def test_classes_stand_in_their_files(self):
        files = [(ratios, "Ratio"), (polynomials, "Polynomial"), (roots, "Root"), (formulas, "Formula"), (tables, "Table")]
        files += [(facts, "Facts"), (desk, "Desk")]
        for module, name in files:
            self.assertEqual(getattr(module, name).__module__, module.__name__)


if __name__ == "__main__":
    unittest.main()
