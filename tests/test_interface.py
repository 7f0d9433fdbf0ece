"""The interface: each name in its file, with its arguments, each method in its class."""

import inspect
import unittest

from fifteenforms import alike, books, certificates, checker, console, desks, errors, fifteen, forms, growing, guesses
from fifteenforms import limits, rests, squares, triangles, writing
from fifteenforms.books import Book
from fifteenforms.console import Console
from fifteenforms.desks import Desk
from fifteenforms.forms import Form

FUNCTIONS = {
    writing: {
        "gives": ("form", "number"),
        "writing": ("form", "number"),
        "writings": ("form", "number"),
        "count_writings": ("form", "number"),
        "least_value": ("form",),
        "counts": ("form", "number"),
        "first_unlike": ("form", "other", "number"),
    },
    fifteen: {
        "gives_all": ("form",),
        "gives_odd": ("form",),
        "gives_primes": ("form",),
        "least_missed": ("form",),
        "least_odd_missed": ("form",),
        "least_prime_missed": ("form",),
        "missed": ("form", "number"),
        "all_but_fifteen": ("form",),
        "first_missed": ("form", "numbers"),
        "mends": ("form", "most"),
    },
    rests: {
        "rests": ("form", "modulus"),
        "is_barred": ("form", "modulus", "number"),
        "bar": ("form", "number"),
        "barred_rests": ("form", "modulus"),
    },
    alike: {
        "alike": ("form", "other"),
        "turning": ("form", "other"),
        "count_turnings": ("form",),
    },
    growing: {
        "grown": ("form",),
        "tree": ("places",),
    },
    triangles: {
        "triangles_give": ("lots", "number"),
        "triangles_all": ("lots",),
        "least_triangle_missed": ("lots",),
        "triangle_writing": ("lots", "number"),
    },
    squares: {
        "diagonals": ("places", "most"),
        "lone_squares": ("places", "most"),
    },
    guesses: {
        "fitting": ("forms", "given", "lacked"),
        "confused": ("forms", "number"),
    },
    checker: {
        "accepts": ("claim", "certificate"),
    },
    certificates: {
        "certify_number": ("form", "number"),
        "certify_bar": ("form", "number"),
        "certify_all": ("form",),
        "certify_odd": ("form",),
        "certify_primes": ("form",),
        "certify_likeness": ("form", "other"),
    },
}

# Each class with its file, its methods with their arguments, its static methods, and its properties.
CLASSES = (
    (
        Form, forms,
        {
            "__init__": ("table",),
            "product": ("one", "two"),
            "value": ("point",),
            "beside": ("other",),
            "turned": ("rows",),
            "part": ("indexes",),
            "__str__": (),
            "__repr__": (),
            "__eq__": ("other",),
        },
        {"read": ("text",), "squares": ("factors",)},
        ("table", "places", "determinant", "diagonal"),
    ),
    (
        Desk, desks,
        {
            "__init__": ("form",),
            "put": ("row", "place", "entry"),
            "grow": ("row",),
            "turn": ("rows",),
            "leave": ("place",),
            "undo": (),
            "trial": (),
            "tried": ("action",),
        },
        {},
        ("form", "changes", "past"),
    ),
    (
        Book, books,
        {
            "__init__": (),
            "__setitem__": ("name", "form"),
            "__getitem__": ("name",),
            "__contains__": ("value",),
            "__len__": (),
            "drop": ("name",),
            "wish": ("wish",),
            "lift": ("index",),
            "undo": (),
            "do_all": ("deeds", "watch"),
            "trial": (),
            "tried": ("action",),
        },
        {},
        ("names", "wishes", "changes"),
    ),
    (Console, console, {"__init__": ("form",), "say": ("line",)}, {}, ()),
)


class TestInterface(unittest.TestCase):
    def test_functions_stand_in_their_files(self):
        for module, functions in FUNCTIONS.items():
            for name, parameters in functions.items():
                with self.subTest(name=name):
                    function = getattr(module, name)
                    self.assertTrue(inspect.isfunction(function))
                    self.assertEqual(function.__module__, module.__name__)
                    self.assertEqual(tuple(inspect.signature(function).parameters), parameters)

    def test_methods_stand_in_their_class(self):
        for made, module, methods, static, properties in CLASSES:
            self.assertEqual(made.__module__, module.__name__)
            for name, parameters in methods.items():
                with self.subTest(made=made, name=name):
                    self.assertTrue(inspect.isfunction(made.__dict__[name]))
                    found = tuple(inspect.signature(made.__dict__[name]).parameters)
                    self.assertEqual(found, ("self", *parameters))
            for name, parameters in static.items():
                with self.subTest(made=made, name=name):
                    self.assertIsInstance(made.__dict__[name], staticmethod)
                    self.assertEqual(tuple(inspect.signature(getattr(made, name)).parameters), parameters)
            for name in properties:
                with self.subTest(made=made, name=name):
                    self.assertIsInstance(made.__dict__[name], property)

    def test_deeds_are_passed_by_position_and_watch_by_name(self):
        parameters = inspect.signature(Book.do_all).parameters
        self.assertIs(parameters["deeds"].kind, inspect.Parameter.VAR_POSITIONAL)
        self.assertIs(parameters["watch"].kind, inspect.Parameter.KEYWORD_ONLY)
        self.assertIsNone(parameters["watch"].default)

    def test_nothing_else_has_a_default(self):
        for module, functions in FUNCTIONS.items():
            for name in functions:
                for parameter in inspect.signature(getattr(module, name)).parameters.values():
                    self.assertIs(parameter.default, inspect.Parameter.empty)

    def test_errors_and_limits_stand_in_their_files(self):
        for value in vars(errors).values():
            if isinstance(value, type):
                self.assertEqual(value.__module__, errors.__name__)
                self.assertIn("__init__", value.__dict__)
        self.assertEqual([name for name, value in vars(limits).items() if callable(value)], [])
