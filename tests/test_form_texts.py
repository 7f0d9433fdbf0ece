"""Form.read and Form.squares."""

import random

from fifteenforms.errors import InvalidNumbers, InvalidText
from fifteenforms.forms import Form
from tests.helping import Refusing
from tests.plain import ODD_VALUES, some_tables

WRONG_TEXTS = (
    "",
    " ",
    "\n",
    "\n\n",
    "0",
    "-1",
    "1001",
    "-1001",
    "99999999999999999999",
    "9" * 3999,
    "01",
    "1000 00\n0 1",
    "1 -0\n0 1",
    "1 -0\n-0 1",
    "1 00\n00 1",
    "1 -01\n-01 5",
    "2 +1\n+1 2",
    "+1",
    "--1",
    "1-",
    "1.0",
    "1e2",
    "1_0",
    "0x1",
    "one",
    "1 0\n0 x",
    "1  0\n0 1",
    "1 0\n0  1",
    " 1",
    "1 ",
    " 1 0\n0 1",
    "1 0 \n0 1",
    "1 0\n 0 1",
    "1 0\n0 1 ",
    "\n1 0\n0 1",
    "1 0\n0 1\n",
    "1 0\n\n0 1",
    "1 0 0 1",
    "1 0,0 1",
    "1 0, 0 1",
    "1, 0\n0, 1",
    "(1,)",
    "((1,),)",
    "1\t0\n0 1",
    "1 0\r\n0 1",
    "1 0\n0",
    "1\n0 1",
    "1 0",
    "1\n1",
    "1 0\n0 1\n0 0",
    "1 0 0\n0 1 0",
    "1 0\n0 1 0",
    "1 0 0\n0 1 0\n0 1",
    "- 1",
    "2 - 1\n-1 2",
    "2 1\n-1 2",
    "2 1\n0 2",
    "1 1\n1 1",
    "1 2\n2 1",
    "0 0\n0 1",
    "1 0 0 0 0 0\n0 1 0 0 0 0\n0 0 1 0 0 0\n0 0 0 1 0 0\n0 0 0 0 1 0\n0 0 0 0 0 1",
    "Form of 1 places",
)


class TestRead(Refusing):
    def test_reads_what_str_gives(self):
        chance = random.Random(3)
        tables = [((1000,),), ((1,),), ((10, -9), (-9, 10)), ((1000, -999), (-999, 1000))]
        for places in range(1, 6):
            tables += some_tables(chance, places, 1000, 200, 8) + some_tables(chance, places, 12, 3, 8)
        for table in tables:
            with self.subTest(table=table):
                form = Form(table)
                self.assertEqual(Form.read(str(form)), form)
                self.assertEqual(Form.read(text=str(form)).table, table)
                self.assertIs(type(Form.read(str(form))), Form)

    def test_some_texts(self):
        self.assertEqual(Form.read("1 0\n0 2").table, ((1, 0), (0, 2)))
        self.assertEqual(Form.read("7").table, ((7,),))
        self.assertEqual(Form.read("2 -1\n-1 2").table, ((2, -1), (-1, 2)))
        self.assertEqual(Form.read("1 0 1\n0 2 1\n1 1 5").determinant, 7)

    def wrong(self, value):
        self.refused(InvalidText, "given", value, Form.read, value)
        self.refused(InvalidText, "given", value, Form.read, text=value)

    def test_wrong_texts(self):
        for text in WRONG_TEXTS:
            self.wrong(text)

    def test_values_that_are_no_strings(self):
        for value in (*ODD_VALUES, 1, (1,), ((1,),), ["1"], Form(((1,),))):
            if type(value) is not str:
                self.wrong(value)

    def test_words_left_out_or_doubled(self):
        text = "2 -1 0\n-1 2 -1\n0 -1 3"
        self.assertEqual(Form.read(text).places, 3)
        lines = text.split("\n")
        for row, line in enumerate(lines):
            words = line.split(" ")
            for at in range(3):
                fewer, more = list(words), list(words)
                del fewer[at]
                more.insert(at, words[at])
                for changed in (fewer, more):
                    self.wrong("\n".join(lines[:row] + [" ".join(changed)] + lines[row + 1:]))
            self.wrong("\n".join(lines[:row] + lines[row + 1:]))
            self.wrong("\n".join(lines[:row + 1] + lines[row:]))

    def test_signs_left_out_or_doubled(self):
        text = "2 -1 0\n-1 2 -1\n0 -1 3"
        for at, sign in enumerate(text):
            if sign in "- \n":
                self.wrong(text[:at] + text[at + 1:])
                self.wrong(text[:at] + sign + text[at:])

    def test_it_is_a_static_method(self):
        self.assertIsInstance(Form.__dict__["read"], staticmethod)
        self.assertEqual(Form(((3,),)).read("2").table, ((2,),))


class TestSquares(Refusing):
    def test_its_table(self):
        self.assertEqual(Form.squares((7,)).table, ((7,),))
        self.assertEqual(Form.squares((1, 2)).table, ((1, 0), (0, 2)))
        self.assertEqual(Form.squares((3, 1, 2)).table, ((3, 0, 0), (0, 1, 0), (0, 0, 2)))
        five = Form.squares(factors=(1, 1000, 3, 4, 5))
        self.assertEqual(five.diagonal, (1, 1000, 3, 4, 5))
        self.assertEqual(five.determinant, 60000)
        self.assertEqual(sum(sum(row) for row in five.table), 1013)
        self.assertIs(type(five), Form)

    def wrong(self, value, index):
        self.refused(InvalidNumbers, "index", index, Form.squares, value)
        self.refused(InvalidNumbers, "index", index, Form.squares, factors=value)

    def test_no_tuples(self):
        for value in (*ODD_VALUES, 1, [1, 2], range(1, 3)):
            self.wrong(value, None)

    def test_wrong_number(self):
        self.wrong((), None)
        self.wrong((1,) * 6, None)
        self.wrong((0,) * 6, None)
        self.wrong((None,) * 7, None)

    def test_elements_that_are_no_numbers(self):
        for value in (*ODD_VALUES, 0, -1, 1001, 10 ** 79, (1,)):
            self.wrong((value,), 0)
            self.wrong((1, value, 0), 1)
            self.wrong((1, 1000, 3, 4, value), 4)

    def test_numbers_at_the_bounds(self):
        self.assertEqual(Form.squares((1, 1000)).diagonal, (1, 1000))

    def test_it_is_a_static_method(self):
        self.assertIsInstance(Form.__dict__["squares"], staticmethod)
        self.assertEqual(Form(((3,),)).squares((2,)).table, ((2,),))
