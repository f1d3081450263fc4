"""The names and arguments that the interface tells, of each module that is there."""

import importlib
import inspect
import unittest

FUNCTIONS = {
    "fractions": {"fraction": ["top", "bottom"]},
    "boards": {
        "board_of": ["rows", "stones"], "closed": ["board"], "open_cells": ["board"], "around": ["board", "cell"],
        "number_at": ["board", "cell"], "opened": ["board", "numbers"],
    },
    "layings": {"is_laying": ["board", "cells"], "why_none": ["board", "cells"], "layings": ["board"]},
    "parts": {"parts": ["board"], "far": ["board"], "numbers_of": ["board", "part"], "bare_wrong": ["board"]},
    "partcounts": {
        "part_layings": ["board", "part"], "part_counts": ["board", "part"],
        "part_counts_at": ["board", "part", "cell"],
    },
    "pouring": {"choices": ["n", "k"], "poured": ["one", "other"]},
    "counts": {"near_counts": ["board"], "count": ["board"], "count_at": ["board", "cell"]},
    "sure": {"share": ["board", "cell"], "shares": ["board"], "sure": ["board"], "witnesses": ["board", "cell"]},
    "thinking": {"follows": ["board", "things", "finding"], "holds": ["board", "finding", "step"]},
    "thoughts": {"thoughts": ["board"]},
    "fields": {"field_of": ["rows"], "stones_of": ["field"], "board_at": ["field", "cells"]},
}


class InterfaceTest(unittest.TestCase):
    def test_names_and_arguments(self):
        for module_name, functions in FUNCTIONS.items():
            module = importlib.import_module("stonelay." + module_name)
            for name, arguments in functions.items():
                with self.subTest(module=module_name, function=name):
                    told = inspect.signature(getattr(module, name)).parameters
                    self.assertEqual(list(told), arguments)
                    for parameter in told.values():
                        self.assertIs(parameter.default, inspect.Parameter.empty)


if __name__ == "__main__":
    unittest.main()
