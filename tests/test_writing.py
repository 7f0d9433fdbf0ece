"""The writings of numbers, compared with a plain search through the box of the document."""

import random
import unittest

from fifteenforms.errors import InvalidNumber, NotAForm
from fifteenforms.forms import Form
from fifteenforms.writing import count_writings, counts, first_unlike, gives, least_value, writing, writings
from tests.helping import Refusing, far_form
from tests.plain import ODD_VALUES, box, points_by_value, some_tables

SIX = Form(((2, 1), (1, 2)))
PAIR = Form.squares((1, 1))
FOUR = Form.squares((1, 1, 1, 1))
MISS = Form.squares((1, 2, 5, 5))

# Tables with the number up to which all points of their boxes are gone through.
TABLES = (
    (((1,),), 120),
    (((3,),), 120),
    (((97,),), 1000),
    (((1000,),), 1000),
    (((1, 0), (0, 1)), 60),
    (((1, 0), (0, 2)), 60),
    (((2, 1), (1, 2)), 60),
    (((2, -1), (-1, 2)), 60),
    (((2, -1), (-1, 5)), 60),
    (((5, 7), (7, 10)), 30),
    (((5, -7), (-7, 10)), 30),
    (((13, 21), (21, 34)), 15),
    (((7, 3), (3, 400)), 420),
    (((900, 400), (400, 1000)), 1000),
    (((1, 0, 0), (0, 1, 0), (0, 0, 1)), 30),
    (((1, 0, 1), (0, 2, 1), (1, 1, 5)), 25),
    (((2, -1, 0), (-1, 2, -1), (0, -1, 2)), 25),
    (((2, 1, -1), (1, 3, 1), (-1, 1, 4)), 25),
    (((3, -1, 1), (-1, 3, 1), (1, 1, 3)), 25),
    (((2, 3, 1), (3, 6, 1), (1, 1, 3)), 15),
    (((1, 0, 0), (0, 100, 7), (0, 7, 50)), 60),
    (((1, 0, 0, 0), (0, 1, 0, 0), (0, 0, 1, 0), (0, 0, 0, 1)), 12),
    (((1, 0, 0, 0), (0, 2, 0, 0), (0, 0, 5, 0), (0, 0, 0, 5)), 20),
    (((2, -1, 0, 0), (-1, 2, -1, -1), (0, -1, 2, 0), (0, -1, 0, 2)), 8),
    (((2, 1, 0, 1), (1, 3, -1, 0), (0, -1, 4, 1), (1, 0, 1, 5)), 10),
    (((1, 0, 0, 0, 0), (0, 1, 0, 0, 0), (0, 0, 1, 0, 0), (0, 0, 0, 1, 0), (0, 0, 0, 0, 1)), 6),
    (((2, -1, 0, 0, 0), (-1, 2, -1, 0, 0), (0, -1, 2, -1, 0), (0, 0, -1, 2, -1), (0, 0, 0, -1, 2)), 6),
    (((3, 1, 0, -1, 0), (1, 4, 1, 0, -1), (0, 1, 5, 1, 1), (-1, 0, 1, 3, 0), (0, -1, 1, 0, 7)), 8),
    (((1, 0, 0, 0, 0), (0, 2, 1, 0, 0), (0, 1, 3, -1, 0), (0, 0, -1, 4, 1), (0, 0, 0, 1, 20)), 7),
)


def opposite(point):
    return tuple(-place for place in point)


class TestAgainstTheBox(unittest.TestCase):
    def compare(self, table, most):
        form, told = Form(table), points_by_value(table, most)
        self.assertEqual(counts(form, most), tuple(len(points) for points in told))
        given = [number for number in range(1, most + 1) if told[number]]
        if given:
            self.assertEqual(least_value(form), given[0])
        for number in range(1, most + 1):
            points = told[number]
            found = writings(form, number)
            self.assertEqual(found, tuple(points))
            self.assertEqual(count_writings(form, number), len(points))
            self.assertIs(gives(form, number), len(points) > 0)
            one = writing(form, number)
            if points:
                self.assertIs(type(one), tuple)
                self.assertIn(one, points)
            else:
                self.assertIsNone(one)

    def test_all_writings_of_some_forms(self):
        for table, most in TABLES:
            with self.subTest(table=table):
                self.compare(table, most)

    def test_all_writings_of_many_small_forms(self):
        chance = random.Random(8)
        for places, top, off, most, many in (
            (1, 40, 0, 200, 10),
            (2, 9, 4, 40, 40),
            (2, 200, 90, 600, 10),
            (3, 6, 2, 15, 30),
            (3, 60, 20, 100, 8),
            (4, 5, 2, 7, 15),
            (4, 30, 9, 30, 4),
            (5, 4, 1, 4, 6),
            (5, 20, 5, 12, 3),
        ):
            for table in some_tables(chance, places, top, off, many):
                if sum(1 for _ in box(table, most)) <= 200000:
                    with self.subTest(table=table):
                        self.compare(table, most)

    def test_ascending_each_once_each_with_its_opposite(self):
        for form, number in ((PAIR, 25), (SIX, 98), (FOUR, 60), (MISS, 200), (Form.squares((1,) * 5), 40)):
            with self.subTest(form=str(form), number=number):
                found = writings(form, number)
                self.assertGreater(len(found), 0)
                self.assertIs(type(found), tuple)
                for one, two in zip(found, found[1:]):
                    self.assertLess(one, two)
                self.assertEqual(tuple(opposite(point) for point in found[::-1]), found)
                for point in found:
                    self.assertEqual(form.value(point), number)
                    self.assertEqual({type(place) for place in point}, {int})


class TestKnownCounts(unittest.TestCase):
    def test_two_squares(self):
        found = counts(PAIR, 1000)
        for number in range(1, 1001):
            over = [n for n in range(1, number + 1) if number % n == 0]
            expected = 4 * (sum(1 for n in over if n % 4 == 1) - sum(1 for n in over if n % 4 == 3))
            self.assertEqual(found[number], expected)

    def test_four_squares(self):
        found = counts(FOUR, 1000)
        self.assertEqual(len(found), 1001)
        self.assertEqual(found[0], 1)
        for number in range(1, 1001):
            over = [n for n in range(1, number + 1) if number % n == 0 and n % 4 != 0]
            self.assertEqual(found[number], 8 * sum(over))

    def test_the_hexagon(self):
        found = counts(SIX, 1000)
        for number in range(1, 1001):
            if number % 2:
                self.assertEqual(found[number], 0)
                continue
            over = [n for n in range(1, number // 2 + 1) if number // 2 % n == 0]
            expected = 6 * (sum(1 for n in over if n % 3 == 1) - sum(1 for n in over if n % 3 == 2))
            self.assertEqual(found[number], expected)

    def test_squares_with_factors(self):
        self.assertEqual(count_writings(Form.squares((1,) * 5), 1000), 352800)
        self.assertEqual([n for n in range(1, 1001) if not gives(MISS, n)], [15])
        self.assertEqual([n for n in range(1, 1001) if not gives(FOUR, n)], [])
        three = counts(Form.squares((1, 1, 1)), 1000)
        missed = [n for n in range(1, 1001) if three[n] == 0]
        expected = sorted(n for n in range(1, 1001) for k in range(5) if n % 4 ** k == 0 and n // 4 ** k % 8 == 7)
        self.assertEqual(missed, expected)

    def test_few_writings(self):
        self.assertEqual(writings(Form(((7,),)), 28), ((-2,), (2,)))
        self.assertEqual(writings(Form(((7,),)), 27), ())
        self.assertEqual(writings(Form.squares((1000, 1000)), 1000), ((-1, 0), (0, -1), (0, 1), (1, 0)))
        self.assertEqual(writings(Form.squares((1000, 1000)), 999), ())
        self.assertEqual(count_writings(Form.squares((999, 1000)), 1000), 2)

    def test_many_writings(self):
        five = Form.squares((1,) * 5)
        found = writings(five, 100)
        self.assertEqual(len(found), count_writings(five, 100))
        self.assertEqual(len(set(found)), len(found))
        self.assertEqual({sum(place * place for place in point) for point in found}, {100})


class TestTurned(unittest.TestCase):
    """A form that was turned far away gives the same numbers as often, however great its entries are."""

    def test_far_forms(self):
        chance = random.Random(9)
        for places in range(2, 6):
            for table in some_tables(chance, places, 6, 1, 12):
                near = Form(table)
                far = far_form(chance, near, 120)
                with self.subTest(near=table, far=far.table):
                    self.assertGreater(max(far.diagonal), 100)
                    self.assertEqual(counts(far, 40), counts(near, 40))
                    self.assertEqual(least_value(far), least_value(near))
                    self.assertIsNone(first_unlike(near, far, 40))
                    for number in (1, 7, 12, 30):
                        found = writings(far, number)
                        self.assertEqual(found, tuple(sorted(set(found))))
                        self.assertEqual(len(found), count_writings(near, number))
                        self.assertEqual({far.value(point) for point in found}, {number} if found else set())
                        one = writing(far, number)
                        self.assertEqual(one in found, bool(found))
                        self.assertEqual(gives(far, number), bool(found))


class TestLeast(unittest.TestCase):
    def test_least_values(self):
        self.assertEqual(least_value(SIX), 2)
        self.assertEqual(least_value(Form(((1000,),))), 1000)
        self.assertEqual(least_value(form=Form.squares((1000, 7, 900))), 7)
        # Not on the diagonal.
        self.assertEqual(least_value(Form(((5, 7), (7, 10)))), 1)
        self.assertEqual(least_value(Form(((1000, 999), (999, 1000)))), 2)
        self.assertEqual(least_value(Form(((1000, -999), (-999, 999)))), 1)
        self.assertEqual(least_value(Form(((10, -4, -4), (-4, 10, -4), (-4, -4, 10)))), 6)

    def test_counts_end_with_the_number(self):
        self.assertEqual(counts(PAIR, 5), (1, 4, 4, 0, 4, 8))
        self.assertEqual(counts(form=PAIR, number=1), (1, 4))
        self.assertEqual(counts(Form(((1000,),)), 1000), (1, *[0] * 999, 2))
        self.assertEqual(counts(Form(((1000,),)), 999), (1, *[0] * 999))


class TestFirstUnlike(unittest.TestCase):
    def test_some(self):
        self.assertEqual(first_unlike(PAIR, Form.squares((1, 2)), 10), 1)
        self.assertIsNone(first_unlike(PAIR, Form(((1, 1), (1, 2))), 50))
        self.assertEqual(first_unlike(form=FOUR, other=MISS, number=9), 1)
        self.assertIsNone(first_unlike(PAIR, PAIR, 1000))

    def test_forms_of_different_places(self):
        self.assertEqual(first_unlike(Form(((1,),)), Form.squares((1, 5)), 1000), 5)
        self.assertEqual(first_unlike(Form.squares((1, 5)), Form(((1,),)), 5), 5)
        self.assertIsNone(first_unlike(Form.squares((1, 5)), Form(((1,),)), 4))
        self.assertEqual(first_unlike(Form(((1,),)), Form.squares((1, 1000)), 1000), 1000)
        self.assertIsNone(first_unlike(Form(((1,),)), Form.squares((1, 1000)), 999))

    def test_against_plain_counts(self):
        chance = random.Random(10)
        tables = some_tables(chance, 2, 3, 1, 8) + some_tables(chance, 3, 3, 1, 8)
        plain = [tuple(len(points) for points in points_by_value(table, 9)) for table in tables]
        for one, often in zip(tables, plain):
            for two, other in zip(tables, plain):
                expected = next((n for n in range(1, 10) if often[n] != other[n]), None)
                self.assertEqual(first_unlike(Form(one), Form(two), 9), expected)

    def test_often_and_not_only_whether(self):
        # Both give 1, but not as often.
        self.assertEqual(first_unlike(FOUR, Form.squares((1, 1, 1)), 10), 1)
        self.assertEqual(first_unlike(Form.squares((1, 2, 2)), Form.squares((1, 2, 3)), 10), 2)


class TestWrongArguments(Refusing):
    FUNCTIONS = (gives, writing, writings, count_writings, counts)
    NO_FORMS = (*ODD_VALUES, 1, ((1,),), "1", Form)
    NO_NUMBERS = (*ODD_VALUES, 0, -1, -1000, 1001, 10 ** 79, (1,), PAIR)

    def test_no_form(self):
        for value in self.NO_FORMS:
            for call in self.FUNCTIONS:
                self.refused(NotAForm, "given", value, call, value, 1)
                self.refused(NotAForm, "given", value, call, form=value, number=1)
            self.refused(NotAForm, "given", value, least_value, value)
            self.refused(NotAForm, "given", value, least_value, form=value)
            self.refused(NotAForm, "given", value, first_unlike, value, PAIR, 1)
            self.refused(NotAForm, "given", value, first_unlike, PAIR, value, 1)
            self.refused(NotAForm, "given", value, first_unlike, number=1, other=value, form=PAIR)

    def test_no_number(self):
        for value in self.NO_NUMBERS:
            for call in self.FUNCTIONS:
                self.refused(InvalidNumber, "given", value, call, PAIR, value)
                self.refused(InvalidNumber, "given", value, call, number=value, form=PAIR)
            self.refused(InvalidNumber, "given", value, first_unlike, PAIR, PAIR, value)
            self.refused(InvalidNumber, "given", value, first_unlike, form=PAIR, other=FOUR, number=value)

    def test_the_first_wrong_argument_is_told(self):
        for call in self.FUNCTIONS:
            self.refused(NotAForm, "given", None, call, None, 0)
            self.refused(NotAForm, "given", None, call, number=True, form=None)
        self.refused(NotAForm, "given", None, first_unlike, None, 5, 0)
        self.refused(NotAForm, "given", 5, first_unlike, PAIR, 5, 0)
        self.refused(NotAForm, "given", None, first_unlike, number=0, other=5, form=None)

    def test_the_bounds_are_accepted(self):
        for number in (1, 1000):
            self.assertIs(gives(FOUR, number=number), True)
            self.assertEqual(FOUR.value(writing(form=FOUR, number=number)), number)
            self.assertEqual(len(writings(form=FOUR, number=number)), count_writings(form=FOUR, number=number))
            self.assertEqual(len(counts(form=FOUR, number=number)), number + 1)
            self.assertIsNone(first_unlike(FOUR, FOUR, number))

    def test_nothing_is_changed_and_equal_calls_return_equal_results(self):
        table = ((2, 3, 1), (3, 6, 1), (1, 1, 3))
        form = Form(table)
        first = [call(form, 14) for call in self.FUNCTIONS]
        self.assertEqual([call(Form(table), 14) for call in self.FUNCTIONS], first)
        self.assertEqual([call(form, 14) for call in self.FUNCTIONS], first)
        self.assertIs(form.table, table)
        self.assertEqual(form, Form(table))
