"""Claims with certificates: the right claim by the tests' own judgement, and accepted by the checker."""

import random

from fifteenforms.certificates import certify_all, certify_bar, certify_likeness, certify_number, certify_odd
from fifteenforms.certificates import certify_primes
from fifteenforms.checker import accepts
from fifteenforms.errors import InvalidNumber, NotAForm
from fifteenforms.forms import Form
from tests.helping import Refusing, far_form
from tests.judging import SHOWING, accepted, is_prime, lacked, least_bar, plainly_alike
from tests.plain import ODD_VALUES, drawn_turning, some_tables, turned_by, value_at

PAIR = Form.squares((1, 1))
THREE = Form.squares((1, 1, 1))
FOUR = Form.squares((1, 1, 1, 1))
MISS = Form.squares((1, 2, 5, 5))
MIXED = Form.squares((1, 1, 2))
SIX = Form(((2, 1), (1, 2)))
FIVE = Form.squares((1, 2, 3, 4, 5))
ONE = Form(((1,),))

# Forms of squares that give all numbers, all odd ones or all primes, or some of these, or none.
FACTORS = (
    (1,), (2,), (1000,), (1, 1), (1, 2), (3, 5), (1, 1, 1), (1, 1, 2), (1, 1, 3), (1, 2, 3), (1, 2, 4),
    (2, 3, 4), (1, 1, 5),
    (1, 1, 1, 1), (1, 2, 5, 5), (1, 2, 5, 10), (1, 1, 1, 7), (1, 1, 1, 8), (2, 2, 2, 2), (1, 2, 3, 4, 5),
    (2, 3, 5, 7, 11),
    (1, 1, 1, 1, 1), (1000,) * 5, (1, 1, 3, 6), (1, 2, 7, 11), (1, 3, 3, 3), (1, 2, 4, 8, 16),
)


def drawn_tables(chance):
    return [table for places in (1, 2, 3) for table in some_tables(chance, places, 6, 2, 6)]


class Certifying(Refusing):
    def told(self, form, pair, claim):
        """Asks that it is a pair of this claim and a certificate that is accepted; returns the certificate."""
        self.assertIs(type(pair), tuple)
        self.assertEqual(len(pair), 2)
        self.assertEqual(pair[0], claim)
        self.assertEqual([type(part) for part in pair[0]], [type(part) for part in claim])
        self.assertEqual(pair[0][1], str(form))
        self.assertIs(type(pair[1]), tuple)
        self.assertIs(accepts(*pair), True)
        return pair[1]

    def are_writings(self, form, numbers, points):
        self.assertEqual([value_at(form.table, point) for point in points], list(numbers))
        self.assertEqual({type(place) for point in points for place in point} - {int}, set())
        self.assertEqual({len(point) for point in points} - {form.places}, set())


class TestNumbers(Certifying):
    def compare(self, form, number, given):
        if given:
            point = self.told(form, certify_number(form, number), ("gives", str(form), number))
            self.are_writings(form, (number,), (point,))
        else:
            self.assertEqual(self.told(form, certify_number(form, number), ("misses", str(form), number)), ())

    def test_squares(self):
        for factors in FACTORS:
            form, missing = Form.squares(factors), lacked(Form.squares(factors).table, 1000)
            for number in (*range(1, 20), 28, 31, 112, 239, 240, 495, 999, 1000):
                self.compare(form, number, number not in missing)

    def test_drawn_forms(self):
        for table in drawn_tables(random.Random(161)):
            missing = lacked(table, 30)
            for number in range(1, 31):
                self.compare(Form(table), number, number not in missing)

    def test_far_forms(self):
        chance = random.Random(162)
        for form in (PAIR, THREE, MISS, FOUR, FIVE):
            far, missing = far_form(chance, form, 40), lacked(form.table, 40)
            for number in range(1, 41):
                self.compare(far, number, number not in missing)

    def test_by_name(self):
        self.assertEqual(certify_number(number=15, form=MISS), (("misses", str(MISS), 15), ()))
        self.assertEqual(certify_number(number=1, form=ONE)[0], ("gives", "1", 1))


class TestBars(Certifying):
    def test_drawn_forms(self):
        seen = set()
        for table in drawn_tables(random.Random(163)) + [PAIR.table, THREE.table, ((16,),), ((8, 4), (4, 8))]:
            for number in (*range(1, 20), 28, 60, 144, 1000):
                modulus, pair = least_bar(table, number), certify_bar(Form(table), number)
                seen.add(modulus)
                if modulus is None:
                    self.assertIsNone(pair)
                else:
                    claim = ("barred", str(Form(table)), modulus, number)
                    self.assertEqual(self.told(Form(table), pair, claim), ())
        self.assertGreater(len(seen), 5)

    def test_known_ones(self):
        self.assertEqual(certify_bar(PAIR, 6), (("barred", "1 0\n0 1", 8, 6), ()))
        self.assertEqual(certify_bar(number=7, form=THREE), (("barred", str(THREE), 8, 7), ()))
        self.assertIsNone(certify_bar(MISS, 15))
        self.assertIsNone(certify_bar(THREE, 28))
        self.assertIsNone(certify_bar(FOUR, 7))


class TestAllNumbers(Certifying):
    def compare(self, form, missing):
        if missing == ():
            points = self.told(form, certify_all(form), ("all", str(form)))
            self.are_writings(form, SHOWING["all"], points)
        else:
            points = self.told(form, certify_all(form), ("not all", str(form), missing[0]))
            self.are_writings(form, range(1, missing[0]), points)
        kinds = (
            ("odd", certify_odd(form), any(number % 2 for number in missing)),
            ("primes", certify_primes(form), any(is_prime(number) for number in missing)),
        )
        for word, pair, lacks in kinds:
            if lacks:
                self.assertIsNone(pair)
            else:
                self.are_writings(form, SHOWING[word], self.told(form, pair, (word, str(form))))
        return (missing == (), kinds[0][2], kinds[1][2])

    def test_squares(self):
        seen = {self.compare(Form.squares(factors), lacked(Form.squares(factors).table, 300)) for factors in FACTORS}
        # Forms that give all numbers, all odd ones or all primes, only one of these, or none.
        self.assertGreaterEqual(len(seen), 4)

    def test_drawn_forms(self):
        for table in drawn_tables(random.Random(164)):
            self.compare(Form(table), lacked(table, 80))

    def test_far_forms(self):
        chance = random.Random(165)
        for form in (PAIR, THREE, MIXED, MISS, FOUR, FIVE):
            self.compare(far_form(chance, form, 40), lacked(form.table, 100))

    def test_known_ones(self):
        claim, paper = certify_all(form=THREE)
        self.assertEqual((claim, len(paper)), (("not all", "1 0 0\n0 1 0\n0 0 1", 7), 6))
        self.assertEqual(certify_all(SIX), (("not all", "2 1\n1 2", 1), ()))
        self.assertEqual(len(certify_all(FOUR)[1]), 9)
        self.assertEqual(len(certify_odd(form=MIXED)[1]), 7)
        self.assertEqual(len(certify_primes(form=MIXED)[1]), 17)
        self.assertEqual(certify_primes(MISS)[0], ("primes", str(MISS)))
        self.assertIsNone(certify_odd(MISS))
        self.assertIsNone(certify_odd(THREE))
        self.assertIsNone(certify_primes(THREE))


class TestLikeness(Certifying):
    def compare(self, form, other, likeness):
        pair = certify_likeness(form, other)
        if likeness:
            rows = self.told(form, pair, ("alike", str(form), str(other)))
            self.assertEqual(turned_by(form.table, rows), other.table)
        else:
            self.assertEqual(self.told(form, pair, ("unlike", str(form), str(other))), ())
        self.assertIs(accepted(*pair), True)

    def test_drawn_forms(self):
        chance = random.Random(166)
        tables = [table for places in (1, 2, 3) for table in some_tables(chance, places, 3, 1, 6)]
        tables += [turned_by(table, drawn_turning(chance, len(table), 2)) for table in tables]
        for table in tables:
            for other in tables:
                self.compare(Form(table), Form(other), plainly_alike(table, other))

    def test_far_forms(self):
        chance = random.Random(167)
        for form in (PAIR, SIX, THREE, MIXED, MISS, FOUR, FIVE):
            far, other = far_form(chance, form, 60), far_form(chance, form, 60)
            for one, two in ((far, form), (form, far), (far, other)):
                rows = self.told(one, certify_likeness(one, two), ("alike", str(one), str(two)))
                self.assertEqual(turned_by(one.table, rows), two.table)
        self.assertEqual(certify_likeness(far_form(chance, FOUR, 60), FIVE)[0][0], "unlike")

    def test_by_name(self):
        self.assertEqual(certify_likeness(other=SIX, form=PAIR), (("unlike", "1 0\n0 1", "2 1\n1 2"), ()))
        self.assertEqual(certify_likeness(other=THREE, form=PAIR)[0][0], "unlike")


class TestWrongArguments(Refusing):
    NO_FORMS = (*ODD_VALUES, 1, ((1,),), "1", Form)
    NO_NUMBERS = (*ODD_VALUES, 0, -1, 1001, 10 ** 79, (5,), PAIR)

    def test_no_form(self):
        for value in self.NO_FORMS:
            for call in (certify_number, certify_bar):
                self.refused(NotAForm, "given", value, call, value, 5)
                self.refused(NotAForm, "given", value, call, value, 0)
                self.refused(NotAForm, "given", value, call, number=None, form=value)
            for call in (certify_all, certify_odd, certify_primes):
                self.refused(NotAForm, "given", value, call, value)
                self.refused(NotAForm, "given", value, call, form=value)
            self.refused(NotAForm, "given", value, certify_likeness, value, PAIR)
            self.refused(NotAForm, "given", value, certify_likeness, other=value, form=PAIR)
            self.refused(NotAForm, "given", value, certify_likeness, other=5, form=value)

    def test_no_number(self):
        for value in self.NO_NUMBERS:
            for call in (certify_number, certify_bar):
                self.refused(InvalidNumber, "given", value, call, PAIR, value)
                self.refused(InvalidNumber, "given", value, call, number=value, form=FOUR)

    def test_equal_calls_return_equal_results(self):
        for form in (PAIR, MISS, FOUR, FIVE, SIX):
            same = Form(form.table)
            for number in (1, 15, 1000):
                self.assertEqual(certify_number(form, number), certify_number(same, number))
                self.assertEqual(certify_bar(form, number), certify_bar(same, number))
            for call in (certify_all, certify_odd, certify_primes):
                self.assertEqual(call(form), call(same))
            self.assertEqual(certify_likeness(form, same), certify_likeness(same, form))
