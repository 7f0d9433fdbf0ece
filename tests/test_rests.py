"""Rests, compared with those of all points with places below the modulus."""

import random
import unittest

from fifteenforms.errors import InvalidNumber, NotAForm
from fifteenforms.fifteen import missed
from fifteenforms.forms import Form
from fifteenforms.rests import bar, barred_rests, is_barred, rests
from tests.helping import Refusing, far_form
from tests.plain import ODD_VALUES, some_tables, values_over

PAIR = Form.squares((1, 1))
THREE = Form.squares((1, 1, 1))
FOUR = Form.squares((1, 1, 1, 1))
MISS = Form.squares((1, 2, 5, 5))
SIX = Form(((2, 1), (1, 2)))

TABLES = (
    ((1,),), ((2,),), ((7,),), ((720,),), ((1000,),),
    ((1, 0), (0, 1)), ((2, 1), (1, 2)), ((3, 1), (1, 5)), ((4, 2), (2, 6)), ((1000, 999), (999, 1000)),
    ((12, 6), (6, 15)), ((16, 0), (0, 9)), ((8, 4), (4, 8)),
    ((1, 0, 0), (0, 1, 0), (0, 0, 1)), ((1, 0, 0), (0, 2, 0), (0, 0, 4)), ((2, 1, 0), (1, 2, 1), (0, 1, 4)),
    ((3, 0, 0), (0, 9, 3), (0, 3, 27)), ((997, -12, 5), (-12, 800, 301), (5, 301, 640)),
)
GREATER = (
    ((1, 0, 0, 0), (0, 2, 0, 0), (0, 0, 5, 0), (0, 0, 0, 5)),
    ((2, 0, 0, 1), (0, 2, 0, 1), (0, 0, 2, 1), (1, 1, 1, 2)),
    ((9, 3, 0, 0), (3, 18, 0, 3), (0, 0, 27, 9), (0, 3, 9, 6)),
    ((1000, -3, 12, 100), (-3, 900, 77, 0), (12, 77, 500, -9), (100, 0, -9, 999)),
)
GREATEST = (
    ((1, 0, 0, 0, 0), (0, 16, 0, 0, 0), (0, 0, 16, 0, 0), (0, 0, 0, 16, 0), (0, 0, 0, 0, 16)),
    ((2, 1, 0, 0, 1), (1, 4, 1, 0, 0), (0, 1, 6, 1, 0), (0, 0, 1, 8, 1), (1, 0, 0, 1, 10)),
    ((840, 0, 0, 0, 7), (0, 840, 0, 0, 0), (0, 0, 840, 2, 0), (0, 0, 2, 840, 0), (7, 0, 0, 0, 1)),
    ((1000, -3, 12, 100, 8), (-3, 900, 77, 0, 51), (12, 77, 500, -9, 3), (100, 0, -9, 999, 20), (8, 51, 3, 20, 64)),
)


def plain_rests(table, modulus):
    values = values_over(table, [range(modulus)] * len(table))
    return tuple(sorted({value % modulus for value in values}))


class TestRests(unittest.TestCase):
    def compare(self, table, modulus):
        form, told = Form(table), plain_rests(table, modulus)
        self.assertEqual(rests(form, modulus), told, (table, modulus))
        barred = tuple(rest for rest in range(modulus) if rest not in told)
        self.assertEqual(barred_rests(form, modulus), barred)
        for number in (*range(1, 2 * modulus + 1), 999, 1000):
            self.assertIs(is_barred(form, modulus, number), number % modulus not in told)
        return told

    def test_all_moduli(self):
        for table in TABLES:
            for modulus in range(2, 17):
                self.compare(table, modulus)

    def test_four_places(self):
        for table in GREATER:
            for modulus in (2, 3, 4, 5, 6, 7, 8, 9, 12, 16):
                self.compare(table, modulus)

    def test_five_places(self):
        for table in GREATEST:
            for modulus in (2, 3, 4, 5, 6, 7, 8, 9):
                self.compare(table, modulus)
        self.compare(GREATEST[0], 16)

    def test_drawn_forms(self):
        chance = random.Random(41)
        for places, many in ((1, 6), (2, 12), (3, 12), (4, 4), (5, 2)):
            for table in some_tables(chance, places, 1000, 200, many) + some_tables(chance, places, 9, 2, many):
                for modulus in chance.sample(range(2, 17 - 2 * places), 3):
                    self.compare(table, modulus)

    def test_forms_that_many_moduli_bar(self):
        chance = random.Random(42)
        for places in range(1, 5):
            for table in some_tables(chance, places, 20, 8, 6):
                factor = chance.choice((2, 3, 4, 6, 8, 9, 12))
                table = tuple(tuple(factor * entry for entry in row) for row in table)
                for modulus in (2, 3, 4, 6, 8, 9):
                    self.assertLess(len(self.compare(table, modulus)), modulus + 1)

    def test_known_rests(self):
        self.assertEqual(rests(PAIR, 4), (0, 1, 2))
        self.assertEqual(rests(form=THREE, modulus=8), (0, 1, 2, 3, 4, 5, 6))
        self.assertEqual(barred_rests(form=THREE, modulus=8), (7,))
        self.assertEqual(rests(Form(((1,),)), 16), (0, 1, 4, 9))
        self.assertEqual(rests(Form(((1,),)), 2), (0, 1))
        self.assertEqual(barred_rests(FOUR, 16), ())
        self.assertEqual(rests(Form.squares((16,) * 5), 16), (0,))
        self.assertEqual(barred_rests(Form.squares((16,) * 5), 16), tuple(range(1, 16)))
        # The noughts are a point, too.
        self.assertEqual(rests(Form(((3,),)), 2), (0, 1))

    def test_forms_that_are_alike_have_the_same_rests(self):
        chance = random.Random(43)
        for factors in ((1, 2), (1, 1, 1), (1, 4, 8, 16), (2, 6, 8, 12, 16)):
            form = Form.squares(factors)
            far = far_form(chance, form, 100)
            for modulus in range(2, 17):
                self.assertEqual(rests(far, modulus), rests(form, modulus))

    def test_what_is_barred_is_missed(self):
        for form in (PAIR, THREE, SIX, Form.squares((1, 2, 4)), Form(GREATER[2]), Form(GREATEST[1])):
            lacked = missed(form, 1000)
            for modulus in range(2, 17):
                for number in (*range(1, 40), *range(961, 1001)):
                    if is_barred(form, modulus, number):
                        self.assertIn(number, lacked)


class TestBar(unittest.TestCase):
    def compare(self, table, numbers, moduli=range(2, 17)):
        told = {modulus: plain_rests(table, modulus) for modulus in moduli}
        for number in numbers:
            expected = next((modulus for modulus in moduli if number % modulus not in told[modulus]), None)
            self.assertEqual(bar(Form(table), number), expected, (table, number))

    def test_the_least_modulus(self):
        for table in TABLES:
            self.compare(table, (*range(1, 40), 999, 1000))

    def test_four_places(self):
        for table in GREATER[:3]:
            self.compare(table, (1, 2, 3, 5, 6, 7, 15, 16, 30, 144, 1000))

    def test_known_ones(self):
        self.assertEqual([bar(THREE, number) for number in (7, 15, 23, 31)], [8, 8, 8, 8])
        # It is missed, but only the modulus 32 bars it.
        self.assertIsNone(bar(THREE, 28))
        self.assertIn(28, missed(THREE, 28))
        self.assertEqual(bar(PAIR, 3), 4)
        self.assertEqual(bar(PAIR, 6), 8)
        self.assertIsNone(bar(form=MISS, number=15))
        self.assertEqual(bar(number=9, form=SIX), 2)
        self.assertEqual(bar(Form(((1,),)), 2), 3)
        self.assertIsNone(bar(Form(((1,),)), 1))
        self.assertEqual(bar(Form(((1,),)), 8), 3)
        self.assertEqual(bar(Form(((1,),)), 1000), 7)
        self.assertEqual([bar(Form.squares((16,) * 5), number) for number in (1, 2, 4, 8)], [2, 4, 8, 16])
        self.assertIsNone(bar(Form.squares((1,) * 5), 7))

    def test_none_where_no_modulus_up_to_sixteen_bars(self):
        form = Form(((17,),))
        self.assertIsNone(bar(form, 17))
        self.assertIsNone(bar(Form.squares((17, 17, 17, 17)), 1))

    def test_many_numbers_for_five_places(self):
        for number in range(1, 40):
            self.assertIsNone(bar(Form(GREATEST[3]), number))


class TestWrongArguments(Refusing):
    NO_FORMS = (*ODD_VALUES, 1, ((1,),), "1", Form)
    NO_MODULI = (*ODD_VALUES, 0, 1, -2, 17, 1000, 10 ** 79, (5,), PAIR)
    NO_NUMBERS = (*ODD_VALUES, 0, -1, 1001, 10 ** 79, (5,), PAIR)

    def test_no_form(self):
        for value in self.NO_FORMS:
            for call in (rests, barred_rests):
                self.refused(NotAForm, "given", value, call, value, 5)
                self.refused(NotAForm, "given", value, call, modulus=0, form=value)
            self.refused(NotAForm, "given", value, is_barred, value, 5, 5)
            self.refused(NotAForm, "given", value, is_barred, number=0, modulus=0, form=value)
            self.refused(NotAForm, "given", value, bar, value, 5)
            self.refused(NotAForm, "given", value, bar, number=0, form=value)

    def test_no_modulus(self):
        for value in self.NO_MODULI:
            for call in (rests, barred_rests):
                self.refused(InvalidNumber, "given", value, call, PAIR, value)
                self.refused(InvalidNumber, "given", value, call, modulus=value, form=PAIR)
            self.refused(InvalidNumber, "given", value, is_barred, PAIR, value, 5)
            self.refused(InvalidNumber, "given", value, is_barred, number=0, modulus=value, form=PAIR)

    def test_no_number(self):
        for value in self.NO_NUMBERS:
            self.refused(InvalidNumber, "given", value, is_barred, PAIR, 5, value)
            self.refused(InvalidNumber, "given", value, is_barred, number=value, modulus=16, form=PAIR)
            self.refused(InvalidNumber, "given", value, bar, PAIR, value)
            self.refused(InvalidNumber, "given", value, bar, number=value, form=PAIR)

    def test_the_modulus_is_asked_ahead_of_the_number(self):
        self.refused(InvalidNumber, "given", 17, is_barred, PAIR, 17, 0)
        self.refused(InvalidNumber, "given", True, is_barred, PAIR, True, None)
        self.refused(InvalidNumber, "given", None, is_barred, number=False, modulus=None, form=PAIR)

    def test_the_bounds_are_accepted(self):
        for number in (1, 1000):
            for modulus in (2, 16):
                self.assertIs(is_barred(number=number, modulus=modulus, form=FOUR), False)
                self.assertIs(is_barred(Form(((240,),)), modulus, number), number == 1 or modulus == 16)
            self.assertIsNone(bar(FOUR, number))

    def test_nothing_is_changed_and_equal_calls_return_equal_results(self):
        table = ((2, 3, 1), (3, 6, 1), (1, 1, 3))
        form = Form(table)
        for modulus in (2, 7, 16):
            self.assertEqual(rests(form, modulus), rests(Form(table), modulus))
            self.assertIs(type(rests(form, modulus)), tuple)
            self.assertIs(type(barred_rests(form, modulus)), tuple)
        self.assertIs(form.table, table)
