"""The classes of errors: their bases, and the attributes that they are made with."""

import unittest

from fifteenforms import errors
from tests.plain import ODD_VALUES

GIVEN = "given"
INDEX = "index"

# Each class with Python's class, its base in the package, and its attribute.
WRONG_VALUES = {
    "InvalidText": GIVEN,
    "InvalidName": GIVEN,
    "InvalidNumber": GIVEN,
    "InvalidWish": GIVEN,
    "InvalidIndex": GIVEN,
    "InvalidLine": GIVEN,
    "NotAForm": GIVEN,
    "InvalidTable": INDEX,
    "InvalidPoint": INDEX,
    "InvalidTurning": INDEX,
    "InvalidLots": INDEX,
    "InvalidNumbers": INDEX,
    "InvalidForms": INDEX,
    "InvalidDeeds": INDEX,
}
WRONG_NAMES = {"UnknownName": GIVEN}
NO_ANSWERS = {"NotSure": None, "TooGreat": GIVEN, "Broken": INDEX, "InUse": INDEX, "NothingToUndo": None}

FAMILIES = (
    ("WrongValue", ValueError, WRONG_VALUES),
    ("WrongName", LookupError, WRONG_NAMES),
    ("NoAnswer", ArithmeticError, NO_ANSWERS),
)

KEPT = (*ODD_VALUES, 0, -1, 7, 10 ** 79, "text", (1, (2, [3])), errors.NotSure)


def all_classes():
    """Triples of the name of the base, the name of the class and its attribute."""
    return [(base, name, attribute) for base, _, family in FAMILIES for name, attribute in family.items()]


class TestErrors(unittest.TestCase):
    def test_there_are_no_other_classes(self):
        told = {name for _, name, _ in all_classes()} | {base for base, _, _ in FAMILIES}
        there = {name for name, value in vars(errors).items() if isinstance(value, type)}
        self.assertEqual(there, told)

    def test_each_class_stands_under_its_base_alone(self):
        ours = [value for value in vars(errors).values() if isinstance(value, type)]
        for base, name, _ in all_classes():
            with self.subTest(name=name):
                made = getattr(errors, name)
                above = [other for other in ours if issubclass(made, other) and other is not made]
                self.assertEqual(above, [getattr(errors, base)])
                self.assertEqual(made.__bases__, (getattr(errors, base),))

    def test_each_base_stands_under_the_class_of_python(self):
        for base, python, family in FAMILIES:
            with self.subTest(base=base):
                self.assertEqual(getattr(errors, base).__bases__, (python,))
                for name in family:
                    self.assertTrue(issubclass(getattr(errors, name), python))
                others = {ValueError, LookupError, ArithmeticError} - {python}
                self.assertFalse(issubclass(getattr(errors, base), tuple(others)))

    def test_the_attribute_is_kept_by_position_and_by_name(self):
        for _, name, attribute in all_classes():
            if attribute is None:
                continue
            for value in KEPT:
                with self.subTest(name=name, value=value):
                    made = getattr(errors, name)
                    self.assertIs(getattr(made(value), attribute), value)
                    self.assertIs(getattr(made(**{attribute: value}), attribute), value)

    def test_the_attribute_must_be_passed_and_is_the_only_one(self):
        for _, name, attribute in all_classes():
            if attribute is None:
                continue
            made = getattr(errors, name)
            other = INDEX if attribute == GIVEN else GIVEN
            with self.subTest(name=name):
                self.assertRaises(TypeError, made)
                self.assertRaises(TypeError, made, 1, 2)
                self.assertRaises(TypeError, made, **{other: 1})
                self.assertFalse(hasattr(made(1), other))

    def test_those_without_attributes_take_none(self):
        for name in ("NotSure", "NothingToUndo", "WrongValue", "WrongName", "NoAnswer"):
            with self.subTest(name=name):
                made = getattr(errors, name)
                self.assertIsInstance(made(), made)
                self.assertRaises(TypeError, made, 1)
                self.assertRaises(TypeError, made, given=1)
                self.assertRaises(TypeError, made, index=1)
                self.assertFalse(hasattr(made(), GIVEN))
                self.assertFalse(hasattr(made(), INDEX))

    def test_each_is_raised_and_caught_by_its_bases(self):
        for base, python, family in FAMILIES:
            for name, attribute in family.items():
                made = getattr(errors, name)
                for caught in (made, getattr(errors, base), python):
                    with self.subTest(name=name, caught=caught):
                        with self.assertRaises(caught):
                            raise made() if attribute is None else made(5)
