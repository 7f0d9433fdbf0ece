"""The interface: each name in its file, with its arguments, each method in its class."""

import inspect
import unittest

from fifteenforms import alike, errors, fifteen, forms, growing, limits, rests, writing
from fifteenforms.forms import Form

FUNCTIONS = {
    writing: {
        "gives": ("form", "number"),
        "writing": ("form", "number"),
        "writings": ("form", "number"),
        "count_writings": ("form", "number"),
        "least_value": ("form",),
        "counts": ("form", "number"),
        "first_unlike": ("form", "other", "number"),
    },
    fifteen: {
        "gives_all": ("form",),
        "gives_odd": ("form",),
        "gives_primes": ("form",),
        "least_missed": ("form",),
        "least_odd_missed": ("form",),
        "least_prime_missed": ("form",),
        "missed": ("form", "number"),
        "all_but_fifteen": ("form",),
        "first_missed": ("form", "numbers"),
        "mends": ("form", "most"),
    },
    rests: {
        "rests": ("form", "modulus"),
        "is_barred": ("form", "modulus", "number"),
        "bar": ("form", "number"),
        "barred_rests": ("form", "modulus"),
    },
    alike: {
        "alike": ("form", "other"),
        "turning": ("form", "other"),
        "count_turnings": ("form",),
    },
    growing: {
        "grown": ("form",),
        "tree": ("places",),
    },
}

METHODS = {
    "__init__": ("self", "table"),
    "product": ("self", "one", "two"),
    "value": ("self", "point"),
    "beside": ("self", "other"),
    "turned": ("self", "rows"),
    "part": ("self", "indexes"),
    "__str__": ("self",),
    "__repr__": ("self",),
    "__eq__": ("self", "other"),
}


class TestInterface(unittest.TestCase):
    def test_functions_stand_in_their_files(self):
        for module, functions in FUNCTIONS.items():
            for name, parameters in functions.items():
                with self.subTest(name=name):
                    function = getattr(module, name)
                    self.assertTrue(inspect.isfunction(function))
                    self.assertEqual(function.__module__, module.__name__)
                    self.assertEqual(tuple(inspect.signature(function).parameters), parameters)

    def test_methods_stand_in_their_class(self):
        self.assertEqual(Form.__module__, forms.__name__)
        for name, parameters in METHODS.items():
            with self.subTest(name=name):
                self.assertEqual(tuple(inspect.signature(Form.__dict__[name]).parameters), parameters)
        for name, parameters in (("read", ("text",)), ("squares", ("factors",))):
            self.assertIsInstance(Form.__dict__[name], staticmethod)
            self.assertEqual(tuple(inspect.signature(getattr(Form, name)).parameters), parameters)
        for name in ("table", "places", "determinant", "diagonal"):
            self.assertIsInstance(Form.__dict__[name], property)

    def test_errors_and_limits_stand_in_their_files(self):
        for value in vars(errors).values():
            if isinstance(value, type):
                self.assertEqual(value.__module__, errors.__name__)
                self.assertIn("__init__", value.__dict__)
        self.assertEqual([name for name, value in vars(limits).items() if callable(value)], [])
