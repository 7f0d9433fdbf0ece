"""Likeness, compared with all turnings that are found among the points of the box of the document."""

import random
import unittest
from itertools import combinations, product
from math import factorial

from fifteenforms.alike import alike, count_turnings, turning
from fifteenforms.errors import NotAForm
from fifteenforms.forms import Form
from fifteenforms.writing import counts, first_unlike
from tests.helping import Refusing, far_form, unit
from tests.plain import ODD_VALUES, all_turnings, box_size, drawn_turning, leibniz, some_tables, turned_by

PAIR = Form.squares((1, 1))
THREE = Form.squares((1, 1, 1))
FOUR = Form.squares((1, 1, 1, 1))
SIX = Form(((2, 1), (1, 2)))
# Four places, 2 on the diagonal, the last place with the product 1 with each other one.
STAR = Form(((2, 0, 0, 1), (0, 2, 0, 1), (0, 0, 2, 1), (1, 1, 1, 2)))


def chain(places):
    """The form with 2 on the diagonal and -1 beside it."""
    return Form(tuple(
        tuple(2 if i == j else -1 if abs(i - j) == 1 else 0 for j in range(places)) for i in range(places)
    ))


def star_of_five():
    """The like form of five places, a chain with one more place at the last but one of its first four."""
    rows = [list(row) for row in chain(5).table]
    rows[3][4] = rows[4][3] = 0
    rows[2][4] = rows[4][2] = -1
    return Form(tuple(tuple(row) for row in rows))


class Turning(Refusing):
    def are_alike(self, form, other):
        """Asks that the forms are called alike, and that a turning is told that is one."""
        with self.subTest(form=form.table, other=other.table):
            self.assertIs(alike(form, other), True)
            self.assertIs(alike(other, form), True)
            for one, two in ((form, other), (other, form)):
                rows = turning(one, two)
                self.assertIs(type(rows), tuple)
                for row in rows:
                    self.assertIs(type(row), tuple)
                    self.assertEqual([type(entry) for entry in row], [int] * one.places)
                self.assertIn(leibniz(rows), (1, -1))
                self.assertEqual(turned_by(one.table, rows), two.table)
                self.assertEqual(one.turned(rows), two)

    def are_unlike(self, form, other):
        with self.subTest(form=form.table, other=other.table):
            for one, two in ((form, other), (other, form)):
                self.assertIs(alike(one, two), False)
                self.assertIsNone(turning(one, two))


class TestAgainstAllTurnings(Turning):
    def compare(self, table, other):
        if len(all_turnings(table, other)) > 0:
            self.are_alike(Form(table), Form(other))
        else:
            self.are_unlike(Form(table), Form(other))

    def test_all_pairs_of_low_forms_of_two_places(self):
        tables = [
            ((one, off), (off, two))
            for one, two, off in product(range(1, 6), range(1, 6), range(-3, 4))
            if one * two - off * off in (3, 4, 5, 6, 8, 11)
        ]
        self.assertGreater(len(tables), 30)
        seen = [0, 0]
        for one, two in product(tables, tables):
            if leibniz(one) == leibniz(two):
                self.compare(one, two)
                seen[alike(Form(one), Form(two))] += 1
        self.assertGreater(min(seen), 100)

    def test_pairs_of_low_forms_of_three_places(self):
        chance = random.Random(51)
        groups = {}
        for table in some_tables(chance, 3, 4, 2, 250):
            if box_size(table, 4) < 1500:
                groups.setdefault(leibniz(table), []).append(table)
        seen = [0, 0]
        for tables in groups.values():
            for one, two in list(combinations(tables, 2))[:30]:
                self.compare(one, two)
                seen[alike(Form(one), Form(two))] += 1
        self.assertGreater(min(seen), 30)

    def test_pairs_of_low_forms_of_four_places(self):
        chance = random.Random(52)
        groups = {}
        for table in some_tables(chance, 4, 3, 1, 120):
            if box_size(table, 3) < 3000:
                groups.setdefault(leibniz(table), []).append(table)
        seen = [0, 0]
        for tables in groups.values():
            for one, two in list(combinations(tables, 2))[:5]:
                self.compare(one, two)
                seen[alike(Form(one), Form(two))] += 1
        self.assertGreater(min(seen), 5)

    def test_counts(self):
        chance = random.Random(53)
        for places, top, off, many in ((1, 9, 0, 5), (2, 9, 4, 40), (3, 4, 2, 40), (4, 3, 1, 15), (5, 3, 1, 4)):
            for table in some_tables(chance, places, top, off, many):
                if box_size(table, top) < 20000:
                    with self.subTest(table=table):
                        self.assertEqual(count_turnings(Form(table)), len(all_turnings(table, table)))


class TestTurned(Turning):
    def test_drawn_turnings_with_small_entries(self):
        chance = random.Random(54)
        for places, top, off, many in ((1, 1000, 0, 5), (2, 9, 4, 25), (3, 6, 2, 25), (4, 6, 2, 25), (5, 6, 1, 25)):
            for table in some_tables(chance, places, top, off, many):
                other = turned_by(table, drawn_turning(chance, places, chance.randint(1, 6)))
                if max(abs(entry) for row in other for entry in row) <= 1000:
                    self.are_alike(Form(table), Form(other))

    def test_drawn_turnings_with_great_entries(self):
        chance = random.Random(55)
        for places in range(2, 6):
            for table in some_tables(chance, places, 6, 1, 8) + some_tables(chance, places, 200, 60, 4):
                one = far_form(chance, Form(table), 120)
                two = far_form(chance, Form(table), 120)
                self.are_alike(one, two)
                self.assertEqual(count_turnings(one), count_turnings(Form(table)))

    def test_turned_with_one_entry_changed(self):
        chance = random.Random(56)
        for places in range(2, 6):
            for table in some_tables(chance, places, 6, 1, 6):
                rows = [list(row) for row in table]
                rows[0][0] += 1
                other = far_form(chance, Form(tuple(tuple(row) for row in rows)), 60)
                self.are_unlike(far_form(chance, Form(table), 60), other)

    def test_each_form_and_itself(self):
        for form in (
            Form(((1,),)), Form(((1000,),)), PAIR, SIX, THREE, FOUR, STAR, chain(5), Form.squares((1000,) * 5),
        ):
            self.are_alike(form, form)
            self.are_alike(form, Form(form.table))
            self.are_alike(form, form.part(tuple(range(form.places))[::-1]))

    def test_lone_shapes(self):
        self.are_alike(PAIR, Form(((1, 1), (1, 2))))
        self.are_alike(PAIR, Form(((5, 7), (7, 10))))
        self.are_alike(PAIR, Form(((5, -7), (-7, 10))))
        self.are_alike(SIX, Form(((2, -1), (-1, 2))))
        self.are_alike(Form(((1000, 999), (999, 1000))), Form(((2, 1), (1, 1000))))
        self.are_alike(form=Form.squares((1, 2, 5, 5)), other=Form.squares((5, 1, 5, 2)))
        self.assertEqual(PAIR.turned(turning(other=Form(((5, 7), (7, 10))), form=PAIR)), Form(((5, 7), (7, 10))))
        self.assertIs(alike(other=SIX, form=PAIR), False)

    def test_forms_with_many_points_of_one_value(self):
        chance = random.Random(57)
        for form, other in (
            (FOUR.beside(Form(((944,),))), STAR.beside(Form(((236,),)))),
            (STAR.beside(Form(((990,),))), Form.squares((1, 1, 1, 4, 990))),
            (THREE.beside(Form.squares((990, 990))), Form.squares((1, 1, 2, 990, 495))),
        ):
            self.assertEqual(form.determinant, other.determinant)
            far = far_form(chance, form, 60)
            self.are_alike(form, far)
            self.are_unlike(far, other)


class TestUnlike(Turning):
    def test_the_same_determinant(self):
        for one, two in (
            (Form.squares((1, 6)), Form.squares((2, 3))),
            (Form.squares((1, 5)), Form(((2, 1), (1, 3)))),
            (Form.squares((1, 1, 4)), Form.squares((1, 2, 2))),
            (Form.squares((1, 3)), Form(((2, 1), (1, 2)))),
            (STAR, Form.squares((1, 1, 1, 4))),
            (STAR, Form.squares((1, 1, 2, 2))),
            (chain(5), Form.squares((1, 1, 1, 2, 3))),
            (star_of_five(), Form.squares((1, 1, 1, 1, 4))),
            (star_of_five(), STAR.beside(Form(((1,),)))),
            (Form.squares((30, 30, 30, 30, 30)), Form.squares((30, 15, 60, 30, 30))),
        ):
            self.assertEqual(one.determinant, two.determinant)
            self.are_unlike(one, two)

    def test_the_same_determinant_and_diagonal(self):
        groups = {}
        for one, two, three in product(range(-2, 3), repeat=3):
            table = ((4, one, two), (one, 5, three), (two, three, 6))
            groups.setdefault(leibniz(table), []).append(table)
        seen = [0, 0]
        for tables in groups.values():
            for table in tables[1:]:
                told = len(all_turnings(tables[0], table)) > 0
                self.assertIs(alike(Form(tables[0]), Form(table)), told)
                seen[told] += 1
        self.assertGreater(min(seen), 5)
        self.are_alike(Form(((3, 1, 0), (1, 3, 0), (0, 0, 3))), Form(((3, 0, 1), (0, 3, 0), (1, 0, 3))))

    def test_other_places(self):
        for one, two in combinations([Form.squares((1,) * places) for places in range(1, 6)], 2):
            self.are_unlike(one, two)
        self.are_unlike(SIX, Form(((3,),)))
        self.are_unlike(Form(((4,),)), STAR)

    def test_the_same_counts_up_to_some_number(self):
        one, two = Form.squares((1, 1, 40)), Form.squares((1, 1, 41))
        self.assertIsNone(first_unlike(one, two, 39))
        self.are_unlike(one, two)
        one, two = Form(((7, 1), (1, 30))), Form(((7, 2), (2, 30)))
        self.assertEqual(counts(one, 20), counts(two, 20))
        self.are_unlike(one, two)

    def test_forms_that_give_all_numbers_as_often_and_are_unlike(self):
        """A pair of Conway and Sloane: no counts tell the two from one another."""
        pairs = []
        for sign in (1, -1):
            rows = [[3 * sign, -1, -1, -1], [1, 3 * sign, 1, -1], [1, -1, 3 * sign, 1], [1, 1, -1, 3 * sign]]
            pairs.append(Form(tuple(
                tuple(sum(f * p * q for f, p, q in zip((1, 7, 13, 19), one, two)) // 12 for two in rows)
                for one in rows
            )))
        one, two = pairs
        self.assertEqual(one.determinant, two.determinant)
        self.assertIsNone(first_unlike(one, two, 400))
        self.are_unlike(one, two)
        self.are_unlike(one.beside(Form(((1,),))), two.beside(Form(((1,),))))
        chance = random.Random(58)
        self.are_unlike(far_form(chance, one, 40), far_form(chance, two, 40))
        self.are_alike(far_form(chance, one, 40), one)


class TestCounts(unittest.TestCase):
    def test_squares(self):
        for factors in (
            (1,), (7,), (1000,), (1, 1), (1, 2), (3, 3), (1, 1, 1), (1, 1, 2), (1, 2, 2), (1, 2, 3), (5, 5, 5),
            (1, 1, 1, 1), (1, 2, 5, 5), (1, 1, 2, 2), (1, 4, 4, 4), (9, 9, 9, 1000), (1, 1, 1, 1, 1), (1, 2, 3, 4, 5),
            (1, 1, 2, 2, 2), (7, 7, 7, 7, 1), (1000, 1000, 1000, 1000, 1000), (1, 1, 1, 4, 1000), (4, 1, 4, 1, 4),
        ):
            ways = 1
            for factor in set(factors):
                ways *= factorial(factors.count(factor))
            self.assertEqual(count_turnings(Form.squares(factors)), 2 ** len(factors) * ways, factors)

    def test_known_ones(self):
        self.assertEqual(count_turnings(SIX), 12)
        self.assertEqual(count_turnings(form=STAR), 1152)
        self.assertEqual(count_turnings(Form(((1000,),))), 2)
        for places in range(2, 6):
            self.assertEqual(count_turnings(chain(places)), 2 * factorial(places + 1))
        self.assertEqual(count_turnings(star_of_five()), 2 ** 5 * factorial(5))
        self.assertEqual(count_turnings(Form(((2, 1), (1, 3)))), 4)
        self.assertEqual(count_turnings(Form(((3, 1), (1, 4)))), 2)

    def test_parts_beside_one_another(self):
        self.assertEqual(count_turnings(SIX.beside(SIX)), 12 * 12 * 2)
        self.assertEqual(count_turnings(SIX.beside(THREE)), 12 * 48)
        self.assertEqual(count_turnings(STAR.beside(Form(((1,),)))), 1152 * 2)
        self.assertEqual(count_turnings(STAR.beside(Form(((990,),)))), 1152 * 2)
        self.assertEqual(count_turnings(SIX.beside(SIX).beside(Form(((2,),)))), 12 * 12 * 2 * 2)

    def test_turned_forms_have_as_many(self):
        chance = random.Random(59)
        for form in (PAIR, SIX, THREE, FOUR, STAR, chain(4), chain(5), star_of_five(), Form.squares((1, 1, 2, 2, 2))):
            self.assertEqual(count_turnings(far_form(chance, form, 100)), count_turnings(form))


class TestWrongArguments(Refusing):
    def test_no_form(self):
        for value in (*ODD_VALUES, 1, ((1,),), "1", Form, unit(2)):
            self.refused(NotAForm, "given", value, count_turnings, value)
            self.refused(NotAForm, "given", value, count_turnings, form=value)
            for call in (alike, turning):
                self.refused(NotAForm, "given", value, call, value, PAIR)
                self.refused(NotAForm, "given", value, call, PAIR, value)
                self.refused(NotAForm, "given", value, call, THREE, value)
                self.refused(NotAForm, "given", value, call, other=value, form=PAIR)

    def test_the_first_one_is_told(self):
        for call in (alike, turning):
            self.refused(NotAForm, "given", None, call, None, 5)
            self.refused(NotAForm, "given", None, call, other=5, form=None)

    def test_nothing_is_changed_and_equal_calls_return_equal_results(self):
        table = ((2, 3, 1), (3, 6, 1), (1, 1, 3))
        form = Form(table)
        other = form.turned(((1, 1, 0), (0, 1, 0), (0, 3, 1)))
        self.assertEqual(turning(form, other), turning(Form(table), Form(other.table)))
        self.assertEqual(turning(form, other), turning(form, other))
        self.assertIs(form.table, table)
