"""The examples of the document, as they stand there."""

import unittest

from fifteenforms.errors import NotSure
from fifteenforms.forms import Form
from fifteenforms.writing import count_writings, counts, first_unlike, gives, least_value, writing, writings

four, miss, six = Form.squares((1, 1, 1, 1)), Form.squares((1, 2, 5, 5)), Form(((2, 1), (1, 2)))
pair = Form.squares((1, 1))


class TestForms(unittest.TestCase):
    def test_first(self):
        self.assertEqual(
            [
                str(six), repr(four), six.determinant, six.value((1, -1)), six.value((3, 2)),
                six.product((1, 0), (3, 2)), miss.table[2], Form.read("1 0\n0 2").beside(six).table,
            ],
            [
                "2 1\n1 2", "Form of 4 places", 3, 2, 38, 8, (0, 0, 5, 0),
                ((1, 0, 0, 0), (0, 2, 0, 0), (0, 0, 2, 1), (0, 0, 1, 2)),
            ],
        )

    def test_second(self):
        self.assertEqual(
            [
                six.turned(((1, 1), (0, 1))).table, six.turned(((0, 1), (1, 0))) == six,
                miss.part((2, 1)).table, miss.diagonal,
            ],
            [((2, 3), (3, 6)), True, ((5, 0), (0, 2)), (1, 2, 5, 5)],
        )

    def test_third(self):
        with self.assertRaises(NotSure):
            Form(((1, 1), (1, 1)))

    def test_the_grown_form_of_the_definitions(self):
        grown = Form.read("1 0 1\n0 2 1\n1 1 5")
        self.assertEqual(grown.part((0, 1)), Form.read("1 0\n0 2"))
        self.assertFalse(gives(Form.read("1 0\n0 2"), 5))
        self.assertTrue(gives(grown, 5))


class TestWriting(unittest.TestCase):
    def test_first(self):
        self.assertEqual(
            [gives(miss, 14), gives(miss, 15), writing(pair, 3), writings(pair, 2), writings(six, 2)],
            [
                True, False, None, ((-1, -1), (-1, 1), (1, -1), (1, 1)),
                ((-1, 0), (-1, 1), (0, -1), (0, 1), (1, -1), (1, 0)),
            ],
        )

    def test_second(self):
        self.assertEqual(
            [
                count_writings(four, 1), count_writings(four, 2), count_writings(four, 5),
                count_writings(pair, 25), count_writings(six, 14),
            ],
            [8, 24, 48, 12, 12],
        )

    def test_third(self):
        self.assertEqual(
            [
                least_value(six), first_unlike(pair, Form.squares((1, 2)), 10),
                first_unlike(pair, Form(((1, 1), (1, 2))), 50), first_unlike(four, miss, 9), counts(pair, 5),
            ],
            [2, 1, None, 1, (1, 4, 4, 0, 4, 8)],
        )
