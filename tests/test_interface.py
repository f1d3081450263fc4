"""The names and arguments that the interface tells, of each module that is there."""

import importlib
import inspect
import pathlib
import unittest

FUNCTIONS = {
    "fractions": {"fraction": ["top", "bottom"]},
    "boards": {
        "board_of": ["rows", "stones"], "closed": ["board"], "open_cells": ["board"], "around": ["board", "cell"],
        "number_at": ["board", "cell"], "opened": ["board", "numbers"],
    },
    "layings": {"is_laying": ["board", "cells"], "why_none": ["board", "cells"], "layings": ["board"]},
    "parts": {"parts": ["board"], "far": ["board"], "numbers_of": ["board", "part"], "bare_wrong": ["board"]},
    "partcounts": {
        "part_layings": ["board", "part"], "part_counts": ["board", "part"],
        "part_counts_at": ["board", "part", "cell"],
    },
    "pouring": {"choices": ["n", "k"], "poured": ["one", "other"]},
    "counts": {"near_counts": ["board"], "count": ["board"], "count_at": ["board", "cell"]},
    "sure": {"share": ["board", "cell"], "shares": ["board"], "sure": ["board"], "witnesses": ["board", "cell"]},
    "thinking": {"follows": ["board", "things", "finding"], "holds": ["board", "finding", "step"]},
    "thoughts": {"thoughts": ["board"]},
    "fields": {"field_of": ["rows"], "stones_of": ["field"], "board_at": ["field", "cells"]},
    "runs": {"run": ["field", "first", "way"]},
    "chances": {"chances": ["board", "depth"], "best": ["board", "depth"], "plan": ["board", "depth"]},
    "texts": {"written": ["board"], "read": ["text"]},
}
# What may be left out, and what it is then.
DEFAULTS = {("runs", "run", "way"): "sure"}


class InterfaceTest(unittest.TestCase):
    def test_names_and_arguments(self):
        for module_name, functions in FUNCTIONS.items():
            module = importlib.import_module("stonelay." + module_name)
            for name, arguments in functions.items():
                with self.subTest(module=module_name, function=name):
                    told = inspect.signature(getattr(module, name)).parameters
                    self.assertEqual(list(told), arguments)
                    for argument, parameter in told.items():
                        default = DEFAULTS.get((module_name, name, argument), inspect.Parameter.empty)
                        self.assertEqual(parameter.default, default)

    def test_the_desk(self):
        desk = importlib.import_module("stonelay.desk").Desk
        self.assertTrue(inspect.isclass(desk))
        self.assertEqual(list(inspect.signature(desk).parameters), [])
        self.assertEqual(list(inspect.signature(desk().say).parameters), ["row"])

    def test_every_module_is_asked_for(self):
        names = {path.stem for path in pathlib.Path(importlib.import_module("stonelay").__file__).parent.glob("*.py")}
        self.assertEqual(names, set(FUNCTIONS) | {"__init__", "errors", "desk"})


if __name__ == "__main__":
    unittest.main()
