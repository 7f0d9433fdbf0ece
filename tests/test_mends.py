"""Mends, compared with the nine numbers and with determinants of the tests' own."""

import random
import unittest

from fifteenforms.errors import InvalidNumber, NotAForm
from fifteenforms.fifteen import gives_all, mends
from fifteenforms.forms import Form
from fifteenforms.limits import ALL
from tests.helping import Refusing
from tests.plain import ODD_VALUES, box_ranges, changed, drawn_turning, is_sure, turned_by, values_over

PAIR = Form.squares((1, 1))
MISS = Form.squares((1, 2, 5, 5))


def gives_the_nine(table):
    """Whether the nine numbers are values: at points close by, or else somewhere in the box."""
    if set(ALL) <= values_over(table, [range(-2, 3)] * len(table)):
        return True
    return set(ALL) <= values_over(table, box_ranges(table, max(ALL)))


def plain_mends(table, most):
    return tuple(
        (row, place, entry)
        for row in range(len(table))
        for place in range(row, len(table))
        for entry in range(-most, most + 1)
        if entry != table[row][place]
        and is_sure(changed(table, row, place, entry))
        and gives_the_nine(changed(table, row, place, entry))
    )


class TestMends(unittest.TestCase):
    def compare(self, table, most):
        with self.subTest(table=table, most=most):
            found = mends(Form(table), most)
            self.assertEqual(found, plain_mends(table, most))
            self.assertEqual(found, tuple(sorted(set(found))))
            for row, place, entry in found:
                self.assertLessEqual(row, place)
                self.assertNotEqual(table[row][place], entry)
                self.assertTrue(gives_all(Form(changed(table, row, place, entry))))
            return found

    def test_squares(self):
        for factors, most, many in (
            ((1,), 15, 0), ((1, 1), 15, 0), ((1, 1, 1), 15, 0), ((2, 3, 5), 5, 0),
            ((1, 1, 1, 1), 15, None), ((1, 1, 1, 8), 15, None), ((1, 2, 5, 5), 15, None), ((1, 2, 5, 11), 6, None),
            ((1, 2, 3, 12), 6, None), ((1, 3, 3, 3), 4, None), ((2, 2, 2, 2), 15, None), ((10, 5, 2, 3), 2, None),
            ((1, 2, 5, 5, 16), 6, None), ((1, 1, 1, 1, 1), 3, None), ((2, 3, 4, 5, 6), 2, None),
            ((1, 2, 11, 12, 13), 15, None), ((1, 1, 1, 100, 1000), 8, None),
        ):
            found = self.compare(Form.squares(factors).table, most)
            if many is not None:
                self.assertEqual(len(found), many)

    def test_other_tables(self):
        chance = random.Random(31)
        for table, most in (
            (((2, 1), (1, 2)), 15),
            (((1, 0, 1), (0, 2, 1), (1, 1, 5)), 8),
            (((1, 0, 0, 0), (0, 2, 0, 0), (0, 0, 5, 5), (0, 0, 5, 10)), 6),
            (((1, 0, 0, 1), (0, 2, 0, -1), (0, 0, 5, -3), (1, -1, -3, 10)), 6),
            (((1, 0, 1, 0), (0, 2, -1, 1), (1, -1, 5, -4), (0, 1, -4, 7)), 6),
            (((2, 0, 0, 1), (0, 2, 0, 1), (0, 0, 2, 1), (1, 1, 1, 2)), 6),
            (((1, 0, 0, 0, 1), (0, 2, 0, 1, 0), (0, 0, 5, 1, 1), (0, 1, 1, 6, 0), (1, 0, 1, 0, 20)), 4),
            (turned_by(MISS.table, drawn_turning(chance, 4, 2)), 6),
            (turned_by(Form.squares((1, 1, 3, 7)).table, drawn_turning(chance, 4, 2)), 6),
        ):
            self.compare(table, most)

    def test_entries_on_the_diagonal_and_beside_it(self):
        found = mends(MISS, 6)
        self.assertIn((3, 3, 6), found)
        self.assertIn((2, 3, 1), found)
        self.assertIn((2, 3, -1), found)
        self.assertNotIn((3, 3, 5), found)
        self.assertNotIn((2, 3, 0), found)
        self.assertNotIn((3, 2, 1), found)
        self.assertNotIn((2, 3, 5), found)

    def test_the_entry_that_is_there_is_never_told(self):
        four = Form.squares((1, 1, 1, 1))
        found = mends(four, 15)
        for row in range(4):
            self.assertNotIn((row, row, 1), found)
            self.assertIn((row, row, 2), found)
        self.assertEqual([entry for row, place, entry in found if row < place], [])

    def test_the_bounds_of_the_entries(self):
        form = Form.squares((1, 1, 1, 20))
        self.assertEqual(mends(form, most=1)[-1], (3, 3, 1))
        self.assertEqual(mends(form=form, most=7)[-1], (3, 3, 7))
        self.assertEqual([mend for mend in mends(form, 15) if mend[0] == 3], [(3, 3, entry) for entry in range(1, 8)])
        form = Form.squares((1, 2, 5, 15))
        self.assertIn((3, 3, 10), mends(form, 10))
        self.assertNotIn((3, 3, 10), mends(form, 9))
        self.assertEqual([entry for row, place, entry in mends(MISS, 2) if (row, place) == (2, 3)], [-2, -1, 1, 2])


class TestWrongArguments(Refusing):
    def test_no_form(self):
        for value in (*ODD_VALUES, 1, ((1,),), "1", Form):
            self.refused(NotAForm, "given", value, mends, value, 1)
            self.refused(NotAForm, "given", value, mends, most=0, form=value)

    def test_not_from_one_to_fifteen(self):
        for value in (*ODD_VALUES, 0, -1, -15, 16, 17, 1000, 10 ** 79, (5,), PAIR):
            self.refused(InvalidNumber, "given", value, mends, PAIR, value)
            self.refused(InvalidNumber, "given", value, mends, most=value, form=MISS)

    def test_the_bounds_are_accepted(self):
        for most in range(1, 16):
            self.assertEqual(mends(PAIR, most), ())
        for most in (1, 15):
            self.assertEqual(mends(form=MISS, most=most), plain_mends(MISS.table, most))
