"""Low tables: alike to the first one, and so low that searches through them are short."""

import random
import unittest

from fifteenforms.forms import Form
from fifteenforms.reducing import short_basis
from tests.helping import far_form
from tests.plain import leibniz, some_tables


class TestReducing(unittest.TestCase):
    def compare(self, form):
        low, rows = short_basis(form.table)
        self.assertEqual(abs(leibniz(rows)), 1)
        turned = form.turned(tuple(zip(*rows)))
        self.assertEqual([list(row) for row in turned.table], low)
        bound = 2 ** (form.places * (form.places - 1) // 2) * form.determinant
        product = 1
        for entry in turned.diagonal:
            product *= entry
        self.assertLessEqual(product, bound)

    def test_many_tables(self):
        chance = random.Random(11)
        for places in range(1, 6):
            for table in some_tables(chance, places, 9, 3, 15) + some_tables(chance, places, 1000, 300, 5):
                with self.subTest(table=table):
                    self.compare(Form(table))

    def test_far_tables(self):
        chance = random.Random(12)
        for places in range(2, 6):
            for factors in ((1,) * places, tuple(range(1, places + 1))):
                for _ in range(5):
                    far = far_form(chance, Form.squares(factors), 200)
                    with self.subTest(table=far.table):
                        self.assertGreater(max(far.diagonal), 300)
                        self.compare(far)

    def test_a_low_table_stays(self):
        for table in (((1,),), ((3, 1), (1, 3)), ((1, 0, 0), (0, 2, 0), (0, 0, 5))):
            low, rows = short_basis(table)
            self.assertEqual(low, [list(row) for row in table])
            self.assertEqual(leibniz(rows), 1)
