"""Forms: how they are made, what they tell of themselves, and what is no table."""

import random
import unittest

from fifteenforms.errors import InvalidTable, NotSure
from fifteenforms.forms import Form
from tests.helping import Refusing
from tests.plain import ODD_VALUES, Always, is_sure, leibniz, some_tables

CORNER = ((1, 0, 1), (0, 2, 1), (1, 1, 5))
FIVE = (
    (2, -1, 0, 0, 0),
    (-1, 2, -1, 0, 0),
    (0, -1, 2, -1, 0),
    (0, 0, -1, 2, -1),
    (0, 0, 0, -1, 2),
)


class Near:
    """An object with a table, but no form."""

    def __init__(self, table):
        self.table = table
        self._table = table


class TestMade(unittest.TestCase):
    def test_what_it_tells_of_itself(self):
        form = Form(CORNER)
        self.assertEqual(form.table, CORNER)
        self.assertEqual(form.places, 3)
        self.assertEqual(form.determinant, 7)
        self.assertEqual(form.diagonal, (1, 2, 5))
        self.assertEqual(str(form), "1 0 1\n0 2 1\n1 1 5")
        self.assertEqual(repr(form), "Form of 3 places")

    def test_the_table_is_the_one_that_was_passed(self):
        table = tuple(tuple(list(row)) for row in CORNER)
        self.assertIs(Form(table).table, table)
        self.assertIs(Form(table=table).table, table)

    def test_kinds_of_values(self):
        form = Form(CORNER)
        self.assertIs(type(form.diagonal), tuple)
        self.assertIs(type(form.places), int)
        self.assertIs(type(form.determinant), int)
        self.assertIs(type(str(form)), str)

    def test_properties_belong_to_the_class_and_stay(self):
        form = Form(CORNER)
        for name in ("table", "places", "determinant", "diagonal"):
            with self.subTest(name=name):
                self.assertIsInstance(Form.__dict__[name], property)
                with self.assertRaises(AttributeError):
                    setattr(form, name, 1)

    def test_one_place(self):
        form = Form(((7,),))
        self.assertEqual((form.places, form.determinant, form.diagonal), (1, 7, (7,)))
        self.assertEqual((str(form), repr(form)), ("7", "Form of 1 places"))

    def test_five_places(self):
        form = Form(FIVE)
        self.assertEqual((form.places, form.determinant, form.diagonal), (5, 6, (2, 2, 2, 2, 2)))
        self.assertEqual(str(form), "2 -1 0 0 0\n-1 2 -1 0 0\n0 -1 2 -1 0\n0 0 -1 2 -1\n0 0 0 -1 2")
        self.assertEqual(repr(form), "Form of 5 places")

    def test_text_and_repr_for_each_number_of_places(self):
        for places in range(1, 6):
            form = Form(tuple(row[:places] for row in FIVE[:places]))
            self.assertEqual(repr(form), f"Form of {places} places")
            self.assertEqual(len(str(form).split("\n")), places)

    def test_determinants_of_many_tables(self):
        chance = random.Random(1)
        for places in range(1, 6):
            for table in some_tables(chance, places, 1000, 250, 20) + some_tables(chance, places, 3, 1, 20):
                self.assertEqual(Form(table).determinant, leibniz(table))

    def test_a_form_is_true(self):
        self.assertTrue(Form(((1,),)))
        self.assertTrue(Form(FIVE))


class TestEqual(unittest.TestCase):
    def test_equal_if_the_tables_are(self):
        one, same, other = Form(CORNER), Form(tuple(tuple(list(row)) for row in CORNER)), Form(FIVE)
        self.assertTrue(one == one)
        self.assertFalse(one != one)
        self.assertTrue(one == same)
        self.assertFalse(one != same)
        self.assertFalse(one == other)
        self.assertTrue(one != other)

    def test_alike_forms_are_not_equal(self):
        one, turned = Form(((1, 0), (0, 2))), Form(((2, 0), (0, 1)))
        self.assertFalse(one == turned)
        self.assertTrue(one != turned)
        self.assertFalse(Form(((2, 1), (1, 2))) == Form(((2, -1), (-1, 2))))

    def test_never_equal_to_a_value_of_another_class(self):
        form = Form(((1,),))
        for value in (*ODD_VALUES, form.table, str(form), repr(form), 1, Near(form.table), Form):
            with self.subTest(value=value):
                self.assertIs(form == value, False)
                self.assertIs(form != value, True)

    def test_beside_an_equal_to_all(self):
        self.assertIs(Form(((1,),)) == Always(), False)


class TestEdges(Refusing):
    def test_entries_at_the_bounds(self):
        self.assertEqual(Form(((1000,),)).determinant, 1000)
        self.assertEqual(Form(((1000, 999), (999, 1000))).determinant, 1999)
        self.assertEqual(Form(((1000, -999), (-999, 1000))).determinant, 1999)
        thousand = tuple(tuple(1000 if i == j else 0 for j in range(5)) for i in range(5))
        self.assertEqual(Form(thousand).determinant, 10 ** 15)
        # -1000 and 1000 stand in tables, but they leave none sure; so they are not InvalidTable.
        for entry in (1000, -1000):
            with self.assertRaises(NotSure):
                Form(((1000, entry), (entry, 1000)))
        with self.assertRaises(NotSure):
            Form(((-1000,),))

    def test_entries_beyond_the_bounds(self):
        for table, index in (
            (((1001,),), 0),
            (((-1001,),), 0),
            (((10 ** 79,),), 0),
            (((1, 0), (0, 1001)), 1),
            (((1, 1001), (1001, 1)), 0),
            (((1, -1001), (-1001, 1)), 0),
            (((1000, 0, 0), (0, 1000, 0), (0, 0, 1001)), 2),
        ):
            self.wrong(table, index)

    def wrong(self, table, index):
        self.refused(InvalidTable, "index", index, Form, table)
        self.refused(InvalidTable, "index", index, Form, table=table)

    def test_no_tuples(self):
        for value in (*ODD_VALUES, 1, [(1,)], [[1]], {(1,)}, Form(((1,),))):
            self.wrong(value, None)

    def test_wrong_number_of_rows(self):
        self.wrong((), None)
        self.wrong(tuple(tuple(1 if i == j else 0 for j in range(6)) for i in range(6)), None)
        # The number of rows is asked ahead of the rows.
        self.wrong((None,) * 6, None)
        self.wrong(((True,), [1], "x", 4, 5, 6), None)

    def test_rows_that_are_no_tuples(self):
        for value in (*ODD_VALUES, 1, [1], [1, 0]):
            if value != ():
                self.wrong((value,), 0)
            self.wrong(((1, 0), value), 1)
        self.wrong(([1, 0], (0, 1)), 0)
        self.wrong(((1, 0, 0), (0, 1, 0), [0, 0, 1]), 2)

    def test_rows_of_wrong_length(self):
        self.wrong(((),), 0)
        self.wrong(((1, 0),), 0)
        self.wrong(((1,), (0, 1)), 0)
        self.wrong(((1, 0), (0,)), 1)
        self.wrong(((1, 0), (0, 1, 0)), 1)
        self.wrong(((1, 0, 0), (0, 1), (0, 0, 1)), 1)

    def test_entries_that_are_no_integers(self):
        for value in (*ODD_VALUES, (1,), [1]):
            self.wrong(((value,),), 0)
            self.wrong(((2, 1), (1, value)), 1)
            self.wrong(((2, value), (1, 2)), 0)
        self.wrong(((1, False), (0, 1)), 0)
        self.wrong(((1, 0), (False, 1)), 1)
        self.wrong(((1, 0), (0, True)), 1)

    def test_not_the_same_across_the_corner(self):
        self.wrong(((1, 0), (1, 5)), 1)
        self.wrong(((2, 1), (-1, 2)), 1)
        self.wrong(((1, 2, 0), (0, 9, 0), (0, 0, 1)), 1)
        self.wrong(((9, 1, 2), (1, 9, 3), (1, 3, 9)), 2)
        self.wrong(((9, 1, 2), (1, 9, 3), (2, 2, 9)), 2)

    def test_the_first_wrong_row_is_told(self):
        self.wrong(((9, 1, 2), (0, 9, 3), (1, 2, 1001)), 1)
        self.wrong(((9, 1, 2), (0, 9, 3), None), 1)
        self.wrong(((9, 1, 1001), (0, 9, 3), (0, 0, 9)), 0)
        self.wrong(((9, 1, 2), (1, 9, 3), (2, 3, True)), 2)

    def test_not_sure(self):
        for table in (
            ((0,),),
            ((-1,),),
            ((1, 1), (1, 1)),
            ((1, 2), (2, 1)),
            ((0, 0), (0, 1)),
            ((-1, 0), (0, -1)),
            ((1, 0), (0, -1)),
            ((2, -1, -1), (-1, 2, -1), (-1, -1, 2)),
            ((1, 0, 0), (0, 0, 0), (0, 0, 1)),
            ((1, 0, 0), (0, -1, 0), (0, 0, -1)),
            ((2, 1, 1, 1, 1), (1, 2, 1, 1, 1), (1, 1, 2, 1, 1), (1, 1, 1, 2, 1), (1, 1, 1, 1, 0)),
        ):
            with self.subTest(table=table):
                with self.assertRaises(NotSure):
                    Form(table)

    def test_not_sure_is_told_last(self):
        self.wrong(((0, 0), (0, True)), 1)
        self.wrong(((-1, 0), (1, 1)), 1)
        self.wrong(((0, 0), (0, 1001)), 1)

    def test_sure_exactly_if_the_corners_are(self):
        chance = random.Random(2)
        for _ in range(600):
            places = chance.randint(1, 5)
            rows = [[0] * places for _ in range(places)]
            for i in range(places):
                rows[i][i] = chance.randint(0, 4)
                for j in range(i):
                    rows[i][j] = rows[j][i] = chance.randint(-1, 1)
            table = tuple(tuple(row) for row in rows)
            if is_sure(table):
                self.assertEqual(Form(table).determinant, leibniz(table))
            else:
                with self.assertRaises(NotSure):
                    Form(table)
