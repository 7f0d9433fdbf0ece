"""Forms of squares, compared with sums of squares of the tests' own."""

import unittest
from functools import cache
from itertools import combinations_with_replacement

from fifteenforms.errors import InvalidNumber
from fifteenforms.fifteen import all_but_fifteen, gives_all
from fifteenforms.forms import Form
from fifteenforms.squares import diagonals, lone_squares
from tests.helping import Refusing
from tests.plain import ODD_VALUES, missed_by_squares

# Farther than the numbers that the package stands upon.
FAR = 200

CALLS = (diagonals, lone_squares)


@cache
def lacked(factors):
    return missed_by_squares(factors, FAR)


def plain_ones(places, most, told):
    """All factors of forms that miss these numbers alone, of those up to 200."""
    rows = combinations_with_replacement(range(1, most + 1), places)
    return tuple(factors for factors in rows if lacked(factors) == told)


class TestSquares(unittest.TestCase):
    def compare(self, places, most):
        for call, told in ((diagonals, ()), (lone_squares, (15,))):
            with self.subTest(call=call, places=places, most=most):
                found = call(places, most)
                self.assertIs(type(found), tuple)
                self.assertTrue(all(type(factors) is tuple for factors in found))
                self.assertTrue(all(type(factor) is int for factors in found for factor in factors))
                self.assertEqual(found, plain_ones(places, most, told))
                self.assertEqual(found, tuple(sorted(set(found))))
                self.assertTrue(all(list(factors) == sorted(factors) for factors in found))

    def test_up_to_four_places(self):
        for places in (1, 2, 3, 4):
            for most in range(1, 16):
                self.compare(places, most)

    def test_five_places(self):
        for most in (1, 2, 3, 5, 8):
            self.compare(5, most)

    def test_five_places_up_to_fifteen(self):
        self.compare(5, 15)

    def test_known_ones(self):
        found = diagonals(4, 15)
        self.assertEqual(len(found), 54)
        self.assertEqual(found[0], (1, 1, 1, 1))
        self.assertEqual(found[-1], (1, 2, 5, 10))
        self.assertNotIn((1, 2, 5, 5), found)
        self.assertEqual(diagonals(4, 14), found)
        self.assertEqual(lone_squares(4, 15), ((1, 2, 5, 5),))
        self.assertEqual([diagonals(places, 15) for places in (1, 2, 3)], [(), (), ()])
        self.assertEqual([lone_squares(places, 15) for places in (1, 2, 3)], [(), (), ()])
        self.assertEqual(lone_squares(4, 4), ())

    def test_what_is_told_of_the_forms(self):
        for places, most in ((4, 15), (5, 4)):
            told, lone = diagonals(places, most), lone_squares(places, most)
            for factors in combinations_with_replacement(range(1, most + 1), places):
                form = Form.squares(factors)
                self.assertIs(gives_all(form), factors in told)
                self.assertIs(all_but_fifteen(form), factors in lone)

    def test_by_name(self):
        self.assertEqual(diagonals(most=1, places=4), ((1, 1, 1, 1),))
        self.assertEqual(lone_squares(most=6, places=4), ((1, 2, 5, 5),))


class TestWrongArguments(Refusing):
    def test_places(self):
        for value in (*ODD_VALUES, 0, -1, 6, 15, 10 ** 79, (4,)):
            for call in CALLS:
                self.refused(InvalidNumber, "given", value, call, value, 5)
                self.refused(InvalidNumber, "given", value, call, most=5, places=value)

    def test_most(self):
        for value in (*ODD_VALUES, 0, -1, 16, 1000, 10 ** 79, (4,)):
            for call in CALLS:
                self.refused(InvalidNumber, "given", value, call, 4, value)
                self.refused(InvalidNumber, "given", value, call, most=value, places=1)

    def test_places_are_asked_ahead_of_most(self):
        for call in CALLS:
            self.refused(InvalidNumber, "given", 6, call, 6, 16)
            self.refused(InvalidNumber, "given", 0, call, 0, None)
            self.refused(InvalidNumber, "given", True, call, most=False, places=True)

    def test_the_bounds_are_accepted(self):
        for call in CALLS:
            self.assertEqual(call(1, 1), ())
            self.assertEqual(call(1, 15), ())
            self.assertEqual(call(5, 1), ((1,) * 5,) if call == diagonals else ())
