"""What forms give and miss, compared with all points of the box of the document and with sums of squares."""

import random
import unittest
from itertools import combinations_with_replacement

from fifteenforms.errors import InvalidNumber, InvalidNumbers, NotAForm
from fifteenforms.fifteen import all_but_fifteen, first_missed, gives_all, gives_odd, gives_primes
from fifteenforms.fifteen import least_missed, least_odd_missed, least_prime_missed, missed
from fifteenforms.forms import Form
from fifteenforms.limits import ALL, ODD, PRIMES
from tests.helping import Refusing, far_form
from tests.plain import ODD_VALUES, box_size, drawn_turning, is_sure, missed_by_squares, missed_in_box, some_tables

PAIR = Form.squares((1, 1))
THREE = Form.squares((1, 1, 1))
FOUR = Form.squares((1, 1, 1, 1))
MISS = Form.squares((1, 2, 5, 5))
SIX = Form(((2, 1), (1, 2)))

SOME_PRIMES = [number for number in range(2, 1000) if all(number % part for part in range(2, number))]

# Factors of squares, in one to five places.
FACTORS = (
    (1,), (2,), (7,), (1000,), (1, 1), (1, 2), (2, 3), (1, 1000), (1, 1, 1), (1, 1, 2), (1, 1, 3), (1, 2, 3), (1, 2, 4),
    (1, 2, 5), (2, 3, 5), (1, 1, 1, 1), (1, 1, 1, 7), (1, 1, 1, 8), (1, 1, 2, 14), (1, 1, 2, 15), (1, 1, 3, 6),
    (1, 1, 3, 7), (1, 2, 2, 7), (1, 2, 2, 8), (1, 2, 3, 10), (1, 2, 3, 11), (1, 2, 4, 14), (1, 2, 4, 15), (1, 2, 5, 5),
    (1, 2, 5, 10), (1, 2, 5, 11), (5, 2, 1, 5), (1, 3, 3, 3), (2, 2, 3, 3), (2, 3, 4, 5), (1, 1, 1, 1, 1),
    (1, 2, 5, 5, 5), (1, 2, 5, 5, 15), (1, 2, 5, 5, 16), (1, 2, 5, 5, 20), (5, 5, 25, 2, 1), (1, 1, 1, 9, 16),
    (2, 3, 4, 5, 6), (1, 1, 1, 7, 1000), (1, 1, 10, 10, 10), (1, 2, 11, 12, 13), (3, 5, 7, 11, 13),
)

# Forms of four places that are no squares and miss 15 alone.
LONE = (
    ((1, 0, 0, 0), (0, 2, 0, 0), (0, 0, 5, 5), (0, 0, 5, 10)),
    ((1, 0, 0, 1), (0, 2, 0, -3), (0, 0, 5, -1), (1, -3, -1, 10)),
    ((1, 0, 0, 1), (0, 2, 0, -1), (0, 0, 5, -3), (1, -1, -3, 10)),
    ((1, 0, 0, 1), (0, 2, 0, -1), (0, 0, 5, -1), (1, -1, -1, 10)),
)

# Forms with each of the numbers that tell as the least one, the least odd one, the least prime that they miss.
LEAST = {
    1: ((2,),),
    2: ((1, 0), (0, 3)),
    3: ((1, 0), (0, 1)),
    5: ((1, 0), (0, 2)),
    6: ((1, 0, 0), (0, 1, 0), (0, 0, 3)),
    7: ((1, 0, 0), (0, 1, 0), (0, 0, 1)),
    10: ((1, 0, 0), (0, 2, 0), (0, 0, 5)),
    14: ((1, 0, 0), (0, 1, 0), (0, 0, 2)),
    15: ((1, 0, 0, 0), (0, 2, 0, 0), (0, 0, 5, 0), (0, 0, 0, 5)),
}
LEAST_ODD = {
    1: ((2,),),
    3: ((1,),),
    5: ((1, 0), (0, 3)),
    7: ((1, 1, 0), (1, 3, 1), (0, 1, 5)),
    11: ((1, 0, 0), (0, 3, 0), (0, 0, 5)),
    15: ((1, 0, 1), (0, 3, -3), (1, -3, 5)),
    33: ((1, 0, 1, 0), (0, 3, 0, 0), (1, 0, 5, 0), (0, 0, 0, 15)),
}
LEAST_PRIME = {
    2: ((1,),),
    3: ((2,),),
    5: ((2, 1), (1, 3)),
    7: ((2, 0), (0, 3)),
    11: ((2, 1, 0), (1, 3, 0), (0, 0, 5)),
    13: ((2, 0, 0), (0, 3, 0), (0, 0, 7)),
    17: ((2, 1, 0), (1, 3, 1), (0, 1, 5)),
    19: ((2, 0, 2), (0, 3, -2), (2, -2, 7)),
    23: ((2, 0, 0, 0), (0, 3, 0, 0), (0, 0, 7, 3), (0, 0, 3, 13)),
    29: ((2, 1, 0, 1), (1, 3, 0, 0), (0, 0, 5, 0), (1, 0, 0, 11)),
    31: ((2, 1, 0, 0), (1, 3, 0, 0), (0, 0, 5, 1), (0, 0, 1, 11)),
    37: ((2, 0, 1, 0), (0, 3, -3, 0), (1, -3, 7, 3), (0, 0, 3, 13)),
    41: ((2, 1, 0, 0), (1, 3, 0, 0), (0, 0, 5, 6), (0, 0, 6, 11)),
    43: ((2, 0, 2), (0, 3, 0), (2, 0, 7)),
    47: ((2, 0, 0, 1), (0, 3, 0, -3), (0, 0, 7, -1), (1, -3, -1, 13)),
    67: ((2, 0, 0, 1), (0, 3, 2, -3), (0, 2, 7, -4), (1, -3, -4, 17)),
    73: ((2, 0, 1, 3), (0, 3, 0, 0), (1, 0, 7, 0), (3, 0, 0, 13)),
}


def first_of(numbers, lacked):
    """The first of the numbers that is lacked, None if there is none."""
    return next((number for number in numbers if number in lacked), None)


class TestAgainstPlainCounts(unittest.TestCase):
    def compare(self, form, lacked):
        """`lacked` has all numbers up to 73 or more that the form misses."""
        least = first_of(range(1, 16), lacked)
        odd = first_of(range(1, 34, 2), lacked)
        prime = first_of([number for number in SOME_PRIMES if number <= 73], lacked)
        self.assertEqual(
            (least_missed(form), least_odd_missed(form), least_prime_missed(form)), (least, odd, prime), str(form),
        )
        self.assertIs(gives_all(form), least is None)
        self.assertIs(gives_odd(form), odd is None)
        self.assertIs(gives_primes(form), prime is None)
        self.assertIs(all_but_fifteen(form), lacked[:2] == (15,))
        # What the few numbers tell holds for the others, too.
        if least is None:
            self.assertEqual(lacked, ())
        if odd is None:
            self.assertEqual([number for number in lacked if number % 2], [])
        if prime is None:
            self.assertEqual([number for number in lacked if number in SOME_PRIMES], [])

    def test_squares(self):
        for factors in FACTORS:
            with self.subTest(factors=factors):
                form, lacked = Form.squares(factors), missed_by_squares(factors, 1000)
                self.compare(form, lacked)
                self.assertEqual(missed(form, 1000), lacked)
                for number in (1, 2, 15, 16, 200):
                    self.assertEqual(missed(form, number), tuple(at for at in lacked if at <= number))

    def test_all_squares_of_four_places_with_low_factors(self):
        lone = []
        for factors in combinations_with_replacement(range(1, 11), 4):
            lacked = missed_by_squares(factors, 80)
            self.compare(Form.squares(factors), lacked)
            if lacked == (15,):
                lone.append(factors)
        self.assertEqual(lone, [(1, 2, 5, 5)])

    def test_many_tables(self):
        chance = random.Random(21)
        for places, top, off, many in (
            (1, 5, 0, 5), (2, 4, 2, 20), (2, 90, 60, 5), (3, 5, 2, 30), (3, 40, 20, 4), (4, 6, 2, 40), (5, 20, 1, 6),
        ):
            tables = some_tables(chance, places, top, off, many)
            tables = [table for table in tables if box_size(table, 80) < 400000]
            self.assertGreater(len(tables), 1)
            for table in tables:
                with self.subTest(table=table):
                    lacked = missed_in_box(table, 80)
                    self.compare(Form(table), lacked)
                    self.assertEqual(missed(Form(table), 80), lacked)

    def test_tables_that_give_much(self):
        chance = random.Random(22)
        seen = set()
        for _ in range(60):
            rows = [[1, 0, 0, 0], [0, 2, 0, 0], [0, 0, chance.randint(2, 5), 0], [0, 0, 0, chance.randint(3, 15)]]
            for one, two in ((0, 2), (1, 2), (0, 3), (1, 3), (2, 3)):
                rows[one][two] = rows[two][one] = chance.randint(-1, 1)
            with self.subTest(rows=rows):
                table = tuple(tuple(row) for row in rows)
                if not is_sure(table) or box_size(table, 80) > 400000:
                    continue
                lacked = missed_in_box(table, 80)
                self.compare(Form(table), lacked)
                seen.add(lacked[:1])
        self.assertGreater(len(seen), 3)
        self.assertIn((), seen)

    def test_far_forms(self):
        chance = random.Random(23)
        for factors in ((1, 2), (1, 1, 3), (1, 1, 2), (1, 2, 5, 5), (1, 2, 5, 10), (1, 1, 1, 7), (1, 2, 5, 5, 16)):
            far = far_form(chance, Form.squares(factors), 150)
            with self.subTest(factors=factors, far=far.table):
                self.assertGreater(max(far.diagonal), 100)
                self.compare(far, missed_by_squares(factors, 1000))
                self.assertEqual(missed(far, 1000), missed_by_squares(factors, 1000))


class TestFifteenAlone(unittest.TestCase):
    def test_forms_that_miss_fifteen_alone(self):
        for table in (*LONE, *(Form.squares(factors).table for factors in ((1, 2, 5, 5), (5, 5, 2, 1)))):
            form = Form(table)
            with self.subTest(table=table):
                self.assertEqual(missed_in_box(table, 60), (15,))
                self.assertEqual(missed(form, 1000), (15,))
                self.assertIs(all_but_fifteen(form), True)
                self.assertIs(gives_all(form), False)
                self.assertIs(gives_odd(form), False)
                self.assertIs(gives_primes(form), True)
                self.assertEqual((least_missed(form), least_odd_missed(form)), (15, 15))
                self.assertIsNone(least_prime_missed(form))

    def test_in_five_places(self):
        for factor in range(16, 26):
            self.assertIs(all_but_fifteen(MISS.beside(Form(((factor,),)))), True)
        for factor in range(1, 16):
            form = Form.squares((1, 2, 5, 5, factor))
            self.assertIs(all_but_fifteen(form), 15 in missed_by_squares((1, 2, 5, 5, factor), 20))

    def test_others_do_not(self):
        for form in (FOUR, THREE, PAIR, SIX, Form(((1,),)), Form(((15,),)), Form.squares((1, 1, 2))):
            self.assertIs(all_but_fifteen(form=form), False)
        # It misses 15, too, but 7 before.
        self.assertEqual(missed(THREE, 15), (7, 15))
        self.assertIs(all_but_fifteen(THREE), False)


class TestKnownForms(unittest.TestCase):
    def test_least_numbers(self):
        for factors, least in (
            ((2,), 1), ((1,), 2), ((1, 1), 3), ((1, 2), 5), ((1, 1, 3), 6), ((1, 1, 1), 7), ((1, 2, 3), 10),
            ((1, 2, 5), 10), ((1, 1, 2), 14), ((1, 2, 4), 14), ((1, 2, 5, 5), 15), ((1, 2, 5, 10), None),
        ):
            self.assertEqual(least_missed(form=Form.squares(factors)), least)

    def test_odd_ones_and_primes_and_not_all(self):
        mixed = Form.squares((1, 1, 2))
        self.assertEqual((gives_all(form=mixed), gives_odd(form=mixed), gives_primes(form=mixed)), (False, True, True))
        self.assertEqual(least_missed(mixed), 14)
        self.assertIsNone(least_odd_missed(form=mixed))
        self.assertIsNone(least_prime_missed(form=mixed))
        self.assertEqual(least_odd_missed(THREE), 7)
        self.assertEqual(least_prime_missed(SIX), 3)

    def test_each_number_that_tells_is_needed(self):
        for call, numbers, tables in (
            (least_missed, ALL, LEAST), (least_odd_missed, ODD, LEAST_ODD), (least_prime_missed, PRIMES, LEAST_PRIME),
        ):
            self.assertEqual(tuple(tables), numbers)
            for number, table in tables.items():
                with self.subTest(table=table, number=number):
                    self.assertIn(number, missed_in_box(table, number))
                    self.assertEqual(call(Form(table)), number)
                    self.assertEqual(call(Form(table).turned(drawn_turning(random.Random(25), len(table), 2))), number)

    def test_missed_up_to_some_numbers(self):
        self.assertEqual(missed(Form(((1,),)), 10), (2, 3, 5, 6, 7, 8, 10))
        self.assertEqual(missed(form=FOUR, number=1000), ())
        self.assertEqual(missed(FOUR, 1), ())
        self.assertEqual(missed(SIX, 1), (1,))
        self.assertEqual(missed(MISS, 14), ())
        self.assertEqual(missed(MISS, 15), (15,))
        self.assertEqual(missed(Form(((1000,),)), 1000), tuple(range(1, 1000)))


class TestFirstMissed(unittest.TestCase):
    def test_the_order_is_that_of_the_tuple(self):
        self.assertEqual(first_missed(PAIR, (5, 7, 3)), 7)
        self.assertEqual(first_missed(PAIR, (5, 3, 7)), 3)
        self.assertEqual(first_missed(PAIR, (1000, 999, 998)), 999)
        self.assertEqual(first_missed(THREE, (31, 7, 15)), 31)
        self.assertEqual(first_missed(form=THREE, numbers=(6, 5, 15, 7)), 15)

    def test_none(self):
        self.assertIsNone(first_missed(PAIR, ()))
        self.assertIsNone(first_missed(FOUR, tuple(range(1, 1001))))
        self.assertIsNone(first_missed(PAIR, (5, 5, 1, 5)))
        self.assertIsNone(first_missed(MISS, tuple(range(1, 15))))
        self.assertIsNone(first_missed(numbers=(1000,), form=PAIR))

    def test_the_same_number_twice(self):
        self.assertEqual(first_missed(PAIR, (3, 3)), 3)
        self.assertEqual(first_missed(PAIR, (5, 6, 3, 6, 3)), 6)

    def test_many(self):
        chance = random.Random(24)
        for factors in FACTORS:
            form, lacked = Form.squares(factors), missed_by_squares(factors, 1000)
            for most in (20, 1000):
                numbers = tuple(chance.randint(1, most) for _ in range(chance.randint(0, 12)))
                self.assertEqual(first_missed(form, numbers), first_of(numbers, lacked))

    def test_many_numbers_are_taken(self):
        self.assertIsNone(first_missed(FOUR, (1, 1000) * 3000))


class TestWrongArguments(Refusing):
    OF_A_FORM = (
        gives_all, gives_odd, gives_primes, least_missed, least_odd_missed, least_prime_missed, all_but_fifteen,
    )
    NO_FORMS = (*ODD_VALUES, 1, ((1,),), "1", Form)
    NO_NUMBERS = (*ODD_VALUES, 0, -1, -1000, 1001, 10 ** 79, (1,), PAIR)

    def test_no_form(self):
        for value in self.NO_FORMS:
            for call in self.OF_A_FORM:
                self.refused(NotAForm, "given", value, call, value)
                self.refused(NotAForm, "given", value, call, form=value)
            self.refused(NotAForm, "given", value, missed, value, 1)
            self.refused(NotAForm, "given", value, missed, number=0, form=value)
            self.refused(NotAForm, "given", value, first_missed, value, ())
            self.refused(NotAForm, "given", value, first_missed, numbers=None, form=value)

    def test_no_number(self):
        for value in self.NO_NUMBERS:
            self.refused(InvalidNumber, "given", value, missed, PAIR, value)
            self.refused(InvalidNumber, "given", value, missed, number=value, form=FOUR)

    def test_no_numbers(self):
        for value in (*ODD_VALUES, 1, [1, 2], "12", range(3), PAIR):
            self.refused(InvalidNumbers, "index", None, first_missed, PAIR, value)
            self.refused(InvalidNumbers, "index", None, first_missed, numbers=value, form=PAIR)
        for value in self.NO_NUMBERS:
            self.refused(InvalidNumbers, "index", 0, first_missed, PAIR, (value,))
            self.refused(InvalidNumbers, "index", 0, first_missed, PAIR, (value, 3, 0))
            # Also behind a number that is missed.
            self.refused(InvalidNumbers, "index", 2, first_missed, PAIR, (3, 1, value))
            self.refused(InvalidNumbers, "index", 1, first_missed, form=FOUR, numbers=(1000, value, None))

    def test_nothing_is_changed_and_equal_calls_return_equal_results(self):
        table = ((2, 3, 1), (3, 6, 1), (1, 1, 3))
        form = Form(table)
        for call in self.OF_A_FORM:
            self.assertEqual(call(form), call(Form(table)))
        self.assertEqual(missed(form, 30), missed(Form(table), 30))
        self.assertIs(type(missed(form, 30)), tuple)
        self.assertIs(form.table, table)
