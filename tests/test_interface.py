"""The names of the interface: where they are defined, and what they take."""

import importlib
import inspect
import unittest

# A function whose argument is called None takes one argument by position, whatever its name is.
FUNCTIONS = {
    "tokens": {"tokenize": "text"},
    "reader": {"read": "text", "read_type": "text"},
    "writer": {"show": "expression", "show_type": None},
    "programs": {
        "parts": "expression", "numbered": "expression", "annotations": "expression",
        "with_annotations": "expression, types", "is_less_exact": "one, other", "is_exact": "expression",
        "erased": "expression",
    },
    "types": {
        "consistent": "one, other", "less_exact": "one, other", "meeting": "one, other", "ground": None,
        "ground_type": "name", "height": None, "safe": "source, target, *, side",
    },
    "check": {"elaborate": "expression", "casts": "core"},
    "checks": {
        "check_of": "source, target, *, number, side", "join": "first, second", "check_size": "check",
        "check_height": "check", "labels": "check", "first_blame": "check, ground", "is_check": "value",
    },
    "plain": {"run_plain": "core, calls"},
    "machine": {"run_machine": "core, calls", "run_measured": "core, calls"},
    "code": {"compile_core": "core", "is_code": "rows"},
    "runner": {"run_code": "rows, calls", "run_room": "rows, calls"},
    "blame": {"may_blame": "core", "explains": "core, end"},
    "whole": {"outcome": "text, calls, *, road='code'", "all_outcomes": "text, calls"},
}


class InterfaceTests(unittest.TestCase):
    def test_functions(self):
        for module, functions in FUNCTIONS.items():
            for name, arguments in functions.items():
                function = getattr(importlib.import_module("halfnoted." + module), name)
                self.assertTrue(inspect.isfunction(function), name)
                self.assertEqual(function.__module__, "halfnoted." + module, name)
                signature = inspect.signature(function)
                if arguments is None:
                    self.assertEqual([one.default for one in signature.parameters.values()], [inspect.Parameter.empty])
                else:
                    self.assertEqual(str(signature), f"({arguments})", name)


if __name__ == "__main__":
    unittest.main()
