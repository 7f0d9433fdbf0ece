"""The methods of forms: value, product, beside, turned, part."""

import random

from fifteenforms.errors import InvalidPoint, InvalidTurning, NotAForm, NotSure, TooGreat
from fifteenforms.forms import Form
from tests.helping import Refusing, unit
from tests.plain import ODD_VALUES, leibniz, some_tables, value_at

SIX = Form(((2, 1), (1, 2)))
PAIR = Form.squares((1, 1))
CORNER = Form(((1, 0, 1), (0, 2, 1), (1, 1, 5)))
FIVE = Form.squares((1, 2, 3, 4, 5))


def product_at(table, one, two):
    places = range(len(table))
    return sum(table[i][j] * one[i] * two[j] for i in places for j in places)


def image(rows, point):
    """The point whose place i is the sum of row i with the places of the point."""
    return tuple(sum(entry * place for entry, place in zip(row, point)) for row in rows)


def some_turning(chance, places, steps):
    """The unit rows after so many additions and turned signs."""
    rows = [list(row) for row in unit(places)]
    for _ in range(steps):
        one, two = chance.randrange(places), chance.randrange(places)
        if one == two:
            rows[one] = [-entry for entry in rows[one]]
        else:
            sign = chance.choice((-1, 1))
            rows[one] = [a + sign * b for a, b in zip(rows[one], rows[two])]
    return tuple(tuple(row) for row in rows)


class TestValue(Refusing):
    def test_some_values(self):
        self.assertEqual(SIX.value((1, -1)), 2)
        self.assertEqual(SIX.value((3, 2)), 38)
        self.assertEqual(SIX.value(point=(-3, 2)), 14)
        self.assertEqual(SIX.value((0, 0)), 0)
        self.assertEqual(CORNER.value((1, 1, -1)), 1 + 2 + 5 - 2 - 2)
        self.assertEqual(Form(((1000,),)).value((-1000,)), 10 ** 9)

    def test_many_values(self):
        chance = random.Random(4)
        for places in range(1, 6):
            for table in some_tables(chance, places, 30, 6, 10):
                for top in (3, 10 ** 6, 10 ** 75):
                    point = tuple(chance.randint(-top, top) for _ in range(places))
                    self.assertEqual(Form(table).value(point), value_at(table, point))

    def test_great_places(self):
        great = 10 ** 79
        self.assertEqual(SIX.value((great, -great)), 2 * great * great)
        self.assertEqual(SIX.value((great, great - 1)), 6 * great * great - 6 * great + 2)
        # What is returned may be passed on.
        again = SIX.value((great, 0))
        self.assertEqual(SIX.value((again, 0)), 8 * great ** 4)

    def test_no_points(self):
        for value in (*ODD_VALUES, 1, [1, 2], SIX):
            self.refused(InvalidPoint, "index", None, SIX.value, value)
            self.refused(InvalidPoint, "index", None, SIX.value, point=value)

    def test_wrong_number_of_places(self):
        for value in ((), (1,), (1, 2, 3), (None,), (None, None, None)):
            self.refused(InvalidPoint, "index", None, SIX.value, value)
        self.refused(InvalidPoint, "index", None, Form(((1,),)).value, ())

    def test_places_that_are_no_integers(self):
        for value in (*ODD_VALUES, (1,)):
            self.refused(InvalidPoint, "index", 0, SIX.value, (value, 1))
            self.refused(InvalidPoint, "index", 1, SIX.value, (1, value))
            self.refused(InvalidPoint, "index", 0, SIX.value, (value, None))
            self.refused(InvalidPoint, "index", 4, FIVE.value, (1, 2, 3, 4, value))


class TestProduct(Refusing):
    def test_some_products(self):
        self.assertEqual(SIX.product((1, 0), (3, 2)), 8)
        self.assertEqual(SIX.product(one=(3, 2), two=(1, 0)), 8)
        self.assertEqual(SIX.product(two=(0, 1), one=(1, 0)), 1)
        self.assertEqual(SIX.product((0, 0), (5, 7)), 0)
        self.assertEqual(Form(((2, -1), (-1, 5))).product((1, 0), (0, 1)), -1)

    def test_many_products(self):
        chance = random.Random(5)
        for places in range(1, 6):
            for table in some_tables(chance, places, 30, 6, 10):
                form = Form(table)
                for top in (3, 10 ** 75):
                    one = tuple(chance.randint(-top, top) for _ in range(places))
                    two = tuple(chance.randint(-top, top) for _ in range(places))
                    self.assertEqual(form.product(one, two), product_at(table, one, two))
                    self.assertEqual(form.product(two, one), form.product(one, two))
                    self.assertEqual(form.product(one, one), form.value(one))

    def test_wrong_points(self):
        good = (1, 2)
        for value in (*ODD_VALUES, [1, 2], (1,), (1, 2, 3), ()):
            self.refused(InvalidPoint, "index", None, SIX.product, value, good)
            self.refused(InvalidPoint, "index", None, SIX.product, good, value)
        for value in ODD_VALUES:
            self.refused(InvalidPoint, "index", 0, SIX.product, (value, 1), good)
            self.refused(InvalidPoint, "index", 1, SIX.product, (1, value), good)
            self.refused(InvalidPoint, "index", 0, SIX.product, good, (value, 1))
            self.refused(InvalidPoint, "index", 1, SIX.product, good, (1, value))

    def test_the_first_point_is_asked_first(self):
        self.refused(InvalidPoint, "index", 1, SIX.product, (1, None), (None, 1))
        self.refused(InvalidPoint, "index", 0, SIX.product, (None, 1), None)
        self.refused(InvalidPoint, "index", 1, SIX.product, two=None, one=(1, True))
        self.refused(InvalidPoint, "index", None, SIX.product, (1,), (None, 1))


class TestBeside(Refusing):
    def test_both_tables_as_corners(self):
        both = Form.read("1 0\n0 2").beside(SIX)
        self.assertEqual(both.table, ((1, 0, 0, 0), (0, 2, 0, 0), (0, 0, 2, 1), (0, 0, 1, 2)))
        self.assertIs(type(both), Form)
        self.assertEqual(SIX.beside(other=Form(((7,),))).table, ((2, 1, 0), (1, 2, 0), (0, 0, 7)))
        self.assertEqual(Form(((7,),)).beside(SIX).table, ((7, 0, 0), (0, 2, 1), (0, 1, 2)))
        self.assertEqual(SIX.table, ((2, 1), (1, 2)))

    def test_up_to_five_places(self):
        self.assertEqual(CORNER.beside(SIX).places, 5)
        self.assertEqual(SIX.beside(CORNER).determinant, 21)
        self.assertEqual(Form.squares((1, 2, 3, 4)).beside(Form(((5,),))), FIVE)

    def test_too_many_places(self):
        self.refused(TooGreat, "given", 6, CORNER.beside, CORNER)
        self.refused(TooGreat, "given", 6, FIVE.beside, Form(((1,),)))
        self.refused(TooGreat, "given", 6, Form(((1,),)).beside, FIVE)
        self.refused(TooGreat, "given", 10, FIVE.beside, other=FIVE)

    def test_no_form(self):
        for value in (*ODD_VALUES, SIX.table, str(SIX), Form):
            for form in (SIX, FIVE):
                self.refused(NotAForm, "given", value, form.beside, value)
                self.refused(NotAForm, "given", value, form.beside, other=value)


class TestTurned(Refusing):
    def test_some_turnings(self):
        self.assertEqual(SIX.turned(((1, 1), (0, 1))).table, ((2, 3), (3, 6)))
        self.assertEqual(SIX.turned(((0, 1), (1, 0))), SIX)
        self.assertEqual(SIX.turned(rows=((1, 0), (0, 1))), SIX)
        self.assertEqual(Form.squares((1, 2)).turned(((0, 1), (1, 0))).table, ((2, 0), (0, 1)))
        self.assertEqual(Form.squares((1, 2)).turned(((1, 3), (0, 1))).table, ((1, 3), (3, 11)))
        self.assertEqual(Form.squares((1, 2)).turned(((1, 0), (3, 1))).table, ((19, 6), (6, 2)))
        self.assertEqual(Form(((7,),)).turned(((-1,),)).table, ((7,),))
        self.assertIs(type(SIX.turned(((1, 1), (0, 1)))), Form)

    def test_the_value_at_the_image_is_the_value_of_the_other(self):
        chance = random.Random(6)
        turned = 0
        for places in range(1, 6):
            for table in some_tables(chance, places, 12, 3, 20):
                form, rows = Form(table), some_turning(chance, places, 2 * places)
                try:
                    other = form.turned(rows)
                except TooGreat:
                    continue
                turned += 1
                self.assertEqual(other.determinant, form.determinant)
                for _ in range(10):
                    point = tuple(chance.randint(-9, 9) for _ in range(places))
                    self.assertEqual(form.value(image(rows, point)), other.value(point))
        self.assertGreater(turned, 60)

    def test_both_determinants(self):
        self.assertEqual(leibniz(((2, 3), (1, 2))), 1)
        self.assertEqual(PAIR.turned(((2, 3), (1, 2))).table, ((5, 8), (8, 13)))
        self.assertEqual(leibniz(((2, 3), (1, 1))), -1)
        self.assertEqual(PAIR.turned(((2, 3), (1, 1))).table, ((5, 7), (7, 10)))
        self.assertEqual(PAIR.turned(((1, 1), (2, 3))).table, ((5, 7), (7, 10)))

    def test_no_tuples_and_wrong_numbers_of_rows(self):
        for value in (*ODD_VALUES, 1, [(1, 0), (0, 1)], (), ((1, 0),), ((1, 0), (0, 1), (1, 1)), unit(3)):
            self.refused(InvalidTurning, "index", None, SIX.turned, value)
            self.refused(InvalidTurning, "index", None, SIX.turned, rows=value)
        self.refused(InvalidTurning, "index", None, SIX.turned, (None,))
        self.refused(InvalidTurning, "index", None, SIX.turned, (None, None, None))

    def test_wrong_rows(self):
        for value in (*ODD_VALUES, 1, [1, 0], (), (1,), (1, 0, 0), (1, None), (True, 0), (1, False)):
            self.refused(InvalidTurning, "index", 0, SIX.turned, (value, (0, 1)))
            self.refused(InvalidTurning, "index", 1, SIX.turned, ((0, 1), value))
            self.refused(InvalidTurning, "index", 0, SIX.turned, (value, None))
        self.refused(InvalidTurning, "index", 4, FIVE.turned, (*unit(5)[:4], (0, 0, 0, 0, True)))

    def test_wrong_determinants_are_asked_behind_the_rows(self):
        for rows in (
            ((0, 0), (0, 0)),
            ((1, 1), (1, 1)),
            ((2, 0), (0, 1)),
            ((2, 0), (0, -1)),
            ((1, 1), (-1, 1)),
            ((10 ** 40, 1), (1, 10 ** 39)),
        ):
            self.refused(InvalidTurning, "index", None, SIX.turned, rows)
        self.refused(InvalidTurning, "index", 1, SIX.turned, ((0, 0), (0, True)))
        self.refused(InvalidTurning, "index", None, Form(((1,),)).turned, ((2,),))
        self.refused(InvalidTurning, "index", None, FIVE.turned, ((2, 0, 0, 0, 0), *unit(5)[1:]))

    def test_too_great(self):
        self.refused(TooGreat, "given", 1025, PAIR.turned, ((1, 32), (0, 1)))
        self.refused(TooGreat, "given", 1025, PAIR.turned, ((1, 0), (32, 1)))
        self.refused(TooGreat, "given", 10 ** 80 + 1, PAIR.turned, ((1, 0), (10 ** 40, 1)))
        # Row by row: the entry of row 0 at 1 comes ahead of the greater one of row 1 at 1.
        self.refused(TooGreat, "given", 2000, Form.squares((1, 1)).turned, ((1, 2000), (0, 1)))
        self.refused(TooGreat, "given", -2000, Form.squares((1, 1)).turned, ((1, -2000), (0, 1)))
        self.refused(TooGreat, "given", 1001, Form.squares((1, 1)).turned, ((1, 1001), (0, 1)))
        self.refused(TooGreat, "given", -1001, Form.squares((1, 1)).turned, ((1, -1001), (0, 1)))
        self.refused(TooGreat, "given", 4 * 10 ** 158 + 1, PAIR.turned, ((2 * 10 ** 79, 1), (-1, 0)))

    def test_the_first_entry_row_by_row(self):
        three = Form.squares((1, 1, 1))
        # The table is ((1, 5, 40), (5, 26, 1200), (40, 1200, ..)).
        self.refused(TooGreat, "given", 1200, three.turned, ((1, 5, 40), (0, 1, 1000), (0, 0, 1)))
        # The entry of row 0 at 2 comes ahead of the 1025 of row 1 at 1, and this one ahead of the 2501 of row 2 at 2.
        self.refused(TooGreat, "given", 1001, three.turned, ((1, 32, 1001), (0, 1, 0), (0, 0, 1)))
        self.refused(TooGreat, "given", 1025, three.turned, ((1, 32, 0), (0, 1, 50), (0, 0, 1)))

    def test_entries_up_to_the_bound_come_through(self):
        great = Form.squares((1, 1)).turned(((1, 31), (0, 1)))
        self.assertEqual(great.table, ((1, 31), (31, 962)))
        edge = Form.squares((10, 900)).turned(((1, 3), (0, 1)))
        self.assertEqual(edge.table, ((10, 30), (30, 990)))
        top = Form.squares((100, 100)).turned(((1, 3), (0, 1)))
        self.assertEqual(top.table, ((100, 300), (300, 1000)))
        self.refused(TooGreat, "given", 1001, Form.squares((100, 101)).turned, ((1, 3), (0, 1)))

    def test_great_rows(self):
        far = Form(((985, 408), (408, 169)))
        self.assertEqual(far.turned(((-12, 5), (29, -12))), PAIR)
        one = 10 ** 40
        rows = ((one, one - 1), (one + 1, one))
        self.assertEqual(leibniz(rows), 1)
        self.refused(TooGreat, "given", one ** 2 + (one + 1) ** 2, PAIR.turned, rows)

    def test_errors_of_the_rows_come_ahead_of_too_great(self):
        self.refused(InvalidTurning, "index", None, PAIR.turned, ((5000, 0), (0, 5000)))
        self.refused(InvalidTurning, "index", 1, PAIR.turned, ((1, 5000), (0, True)))

    def test_a_turned_form_stays_sure(self):
        chance = random.Random(7)
        for _ in range(40):
            rows = some_turning(chance, 4, 5)
            try:
                Form.squares((1, 2, 3, 4)).turned(rows)
            except TooGreat:
                continue
            except NotSure:
                self.fail("a turned form is sure")


class TestPart(Refusing):
    def test_some_parts(self):
        miss = Form.squares((1, 2, 5, 5))
        self.assertEqual(miss.part((2, 1)).table, ((5, 0), (0, 2)))
        self.assertEqual(CORNER.part(indexes=(2, 0)).table, ((5, 1), (1, 1)))
        self.assertEqual(CORNER.part((0, 2)).table, ((1, 1), (1, 5)))
        self.assertEqual(CORNER.part((0, 1, 2)), CORNER)
        self.assertEqual(CORNER.part((2, 1, 0)).table, ((5, 1, 1), (1, 2, 0), (1, 0, 1)))
        self.assertEqual(CORNER.part((1,)).table, ((2,),))
        self.assertEqual(FIVE.part((4, 0, 3, 1, 2)).diagonal, (5, 1, 4, 2, 3))
        self.assertIs(type(CORNER.part((1,))), Form)

    def test_no_tuples_and_none(self):
        for value in (*ODD_VALUES, 1, [0], [0, 1], (), range(1)):
            self.refused(InvalidPoint, "index", None, SIX.part, value)
            self.refused(InvalidPoint, "index", None, SIX.part, indexes=value)

    def test_no_index_of_a_place(self):
        for value in (*ODD_VALUES, 2, -1, 1000, 10 ** 79, (0,)):
            self.refused(InvalidPoint, "index", 0, SIX.part, (value,))
            self.refused(InvalidPoint, "index", 1, SIX.part, (1, value))
            self.refused(InvalidPoint, "index", 2, SIX.part, (1, 0, value))
        self.refused(InvalidPoint, "index", 1, FIVE.part, (4, 5))

    def test_indexes_that_stand_before(self):
        self.refused(InvalidPoint, "index", 1, SIX.part, (0, 0))
        self.refused(InvalidPoint, "index", 2, SIX.part, (0, 1, 0))
        self.refused(InvalidPoint, "index", 2, SIX.part, (1, 0, 1, 9))
        self.refused(InvalidPoint, "index", 3, FIVE.part, (4, 2, 0, 2))
        self.refused(InvalidPoint, "index", 5, FIVE.part, (0, 1, 2, 3, 4, 4))
        self.refused(InvalidPoint, "index", 1, SIX.part, (0, False))
        self.refused(InvalidPoint, "index", 1, SIX.part, (1, True))
