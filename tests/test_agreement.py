"""What one part of the package tells agrees with what the others tell, and each call by name with that by position."""

import random
import unittest

from fifteenforms import alike as likeness
from fifteenforms import certificates, checker, fifteen, growing, guesses, rests, squares, triangles, writing
from fifteenforms.books import Book
from fifteenforms.certificates import certify_likeness, certify_number
from fifteenforms.checker import accepts
from fifteenforms.console import Console
from fifteenforms.desks import Desk
from fifteenforms.errors import Broken, NotSure
from fifteenforms.forms import Form
from tests.helping import far_form
from tests.plain import some_tables
from tests.test_interface import FUNCTIONS

PAIR = Form.squares((1, 1))
FOUR = Form.squares((1, 1, 1, 1))
MISS = Form.squares((1, 2, 5, 5))

# A call of each function, by position.
CALLS = (
    (writing, "gives", (MISS, 15)), (writing, "writing", (MISS, 14)), (writing, "writings", (PAIR, 5)),
    (writing, "count_writings", (FOUR, 6)), (writing, "least_value", (MISS,)), (writing, "counts", (FOUR, 20)),
    (writing, "first_unlike", (PAIR, FOUR, 9)),
    (fifteen, "gives_all", (MISS,)), (fifteen, "gives_odd", (MISS,)), (fifteen, "gives_primes", (MISS,)),
    (fifteen, "least_missed", (PAIR,)), (fifteen, "least_odd_missed", (PAIR,)),
    (fifteen, "least_prime_missed", (PAIR,)),
    (fifteen, "missed", (PAIR, 40)), (fifteen, "all_but_fifteen", (MISS,)),
    (fifteen, "first_missed", (PAIR, (5, 6, 7))),
    (fifteen, "mends", (MISS, 3)),
    (rests, "rests", (PAIR, 8)), (rests, "is_barred", (PAIR, 8, 6)), (rests, "bar", (PAIR, 6)),
    (rests, "barred_rests", (PAIR, 8)),
    (likeness, "alike", (PAIR, MISS)), (likeness, "turning", (PAIR, Form(((1, 1), (1, 2))))),
    (likeness, "count_turnings", (PAIR,)),
    (growing, "grown", (PAIR,)), (growing, "tree", (2,)),
    (triangles, "triangles_give", ((1, 2), 9)), (triangles, "triangles_all", ((1, 2),)),
    (triangles, "least_triangle_missed", ((1, 2),)), (triangles, "triangle_writing", ((1, 2), 9)),
    (squares, "diagonals", (4, 3)), (squares, "lone_squares", (4, 5)),
    (guesses, "fitting", ((PAIR, FOUR), (5,), (7,))), (guesses, "confused", ((PAIR, FOUR, PAIR), 9)),
    (checker, "accepts", (("gives", "1 0\n0 1", 5), (1, 2))),
    (certificates, "certify_number", (PAIR, 5)), (certificates, "certify_bar", (PAIR, 6)),
    (certificates, "certify_all", (PAIR,)), (certificates, "certify_odd", (FOUR,)),
    (certificates, "certify_primes", (FOUR,)),
    (certificates, "certify_likeness", (PAIR, MISS)),
)


def some_forms(seed):
    """Forms of squares and drawn ones, low ones and far ones."""
    chance = random.Random(seed)
    rows = ((1,), (1000,), (1, 2), (1, 1, 1), (1, 1, 2), (1, 2, 5, 5), (1, 2, 3, 4, 5))
    found = [Form.squares(factors) for factors in rows]
    for places in range(1, 6):
        found += [Form(table) for table in some_tables(chance, places, 9, 2, 3)]
    return found + [far_form(chance, form, 30) for form in found if form.places > 1]


class TestCalls(unittest.TestCase):
    def test_by_position_and_by_name(self):
        told = {(module.__name__, name) for module, name, _ in CALLS}
        self.assertEqual(told, {(module.__name__, name) for module, names in FUNCTIONS.items() for name in names})
        for module, name, passed in CALLS:
            with self.subTest(name=name):
                call = getattr(module, name)
                named = dict(zip(FUNCTIONS[module][name], passed))
                found = call(*passed)
                self.assertEqual(found, call(**named))
                self.assertEqual(found, call(**dict(reversed(list(named.items())))))
                self.assertEqual(found, call(*passed))
                self.assertIsNot(type(found), list)


class TestForms(unittest.TestCase):
    def test_from_its_text_its_table_and_its_squares(self):
        for form in some_forms(191):
            self.assertEqual(Form.read(str(form)), form)
            self.assertEqual(Form(form.table), form)
            self.assertEqual(form.part(tuple(range(form.places))), form)
            plain = Form.squares(form.diagonal)
            self.assertEqual(plain == form, all(
                entry == 0 for i, row in enumerate(form.table) for j, entry in enumerate(row) if i != j
            ))
            self.assertEqual(Console(form).say("show").split(", "), str(form).split("\n"))

    def test_counts_and_writings(self):
        for form in some_forms(192):
            told = writing.counts(form, 30)
            lacked = fifteen.missed(form, 30)
            for number in range(1, 31):
                all_ones = writing.writings(form, number) if told[number] < 3000 else None
                if all_ones is not None:
                    self.assertEqual(len(all_ones), told[number])
                    self.assertTrue(all(form.value(point) == number for point in all_ones))
                    self.assertIs(writing.writing(form, number) in all_ones, told[number] > 0)
                self.assertEqual(writing.count_writings(form, number), told[number])
                self.assertIs(writing.gives(form, number), told[number] > 0)
                self.assertIs(number in lacked, told[number] == 0)
                self.assertEqual(guesses.fitting((form,), (number,), ()), (0,) if told[number] else ())
                self.assertEqual(fifteen.first_missed(form, (number,)), None if told[number] else number)
            least = writing.least_value(form)
            self.assertEqual(lacked[:least - 1], tuple(range(1, min(least, 31))))
            self.assertNotIn(least, lacked)

    def test_what_is_missed(self):
        for form in some_forms(193):
            lacked = fifteen.missed(form, 200)
            self.assertEqual(fifteen.least_missed(form), lacked[0] if lacked else None)
            self.assertIs(fifteen.gives_all(form), lacked == ())
            self.assertIs(fifteen.all_but_fifteen(form), lacked == (15,))
            odd = [number for number in lacked if number % 2]
            self.assertEqual(fifteen.least_odd_missed(form), odd[0] if odd else None)
            self.assertIs(fifteen.gives_odd(form), odd == [])
            self.assertIs(fifteen.gives_primes(form), fifteen.least_prime_missed(form) is None)
            if fifteen.gives_all(form):
                self.assertTrue(fifteen.gives_odd(form) and fifteen.gives_primes(form))
            if form.places < 3:
                self.assertIs(growing.grown(form) is None, lacked == ())

    def test_rests_and_missed_numbers(self):
        for form in some_forms(194):
            lacked, values = fifteen.missed(form, 300), writing.counts(form, 300)
            for modulus in (2, 3, 4, 5, 7, 8, 9, 16):
                left = rests.rests(form, modulus)
                self.assertEqual(sorted(left + rests.barred_rests(form, modulus)), list(range(modulus)))
                for number in range(1, 301):
                    if values[number] > 0:
                        self.assertIn(number % modulus, left)
                    else:
                        self.assertIn(number, lacked)
                for number in (*range(1, 11), 300):
                    self.assertIs(rests.is_barred(form, modulus, number), number % modulus not in left)
            for number in lacked[:10]:
                modulus = rests.bar(form, number)
                if modulus is not None:
                    self.assertIs(rests.is_barred(form, modulus, number), True)

    def test_likeness_and_turnings(self):
        forms = [form for form in some_forms(195) if form.places < 5]
        for form in forms:
            for other in forms:
                rows = likeness.turning(form, other)
                self.assertIs(likeness.alike(form, other), rows is not None)
                self.assertIs(likeness.alike(other, form), rows is not None)
                self.assertEqual(certify_likeness(form, other)[0][0], "unlike" if rows is None else "alike")
                if rows is not None:
                    self.assertEqual(form.turned(rows), other)
                    self.assertEqual(form.determinant, other.determinant)
                    self.assertIsNone(writing.first_unlike(form, other, 60))
                    self.assertEqual(guesses.confused((form, other), 60), ((0, 1),))
                    self.assertEqual(likeness.count_turnings(form), likeness.count_turnings(other))
                    desk = Desk(form)
                    desk.turn(rows)
                    self.assertEqual(desk.form, other)


class TestChanging(unittest.TestCase):
    def test_grown_forms_and_desks(self):
        for form in (PAIR, Form.squares((1, 2)), Form.squares((1, 1, 1)), Form(((2, 1), (1, 2))), Form(((1,),))):
            for other in growing.grown(form):
                desk, console = Desk(form), Console(form)
                row = other.table[-1][:-1]
                desk.grow(row)
                self.assertEqual(desk.form, other)
                self.assertEqual(console.say("grow " + " ".join(str(entry) for entry in row)), "ok")
                self.assertEqual(Form.read(console.say("show").replace(", ", "\n")), other)
                self.assertIs(writing.gives(other, fifteen.least_missed(form)), True)

    def test_mends_and_desks(self):
        for form in (MISS, Form.squares((1, 1, 1, 8)), Form.squares((1, 2, 4, 15))):
            told = fifteen.mends(form, 4)
            for row in range(form.places):
                for place in range(row, form.places):
                    for entry in range(-4, 5):
                        if entry == form.table[row][place]:
                            continue
                        desk = Desk(form)
                        try:
                            desk.put(row, place, entry)
                            mended = fifteen.gives_all(desk.form)
                        except NotSure:
                            mended = False
                        self.assertIs((row, place, entry) in told, mended)

    def test_lines_and_functions(self):
        for form in some_forms(196):
            console = Console(form)
            for number in (1, 7, 15, 28):
                found = console.say(f"gives {number}")
                self.assertIs(found == "no", not writing.gives(form, number))
                self.assertEqual(console.say(f"count {number}"), str(writing.count_writings(form, number)))
                told = " ".join(str(at) for at in fifteen.missed(form, number))
                self.assertEqual(console.say(f"missed {number}"), told or "none")
            self.assertEqual(console.say("least"), str(fifteen.least_missed(form) or "none"))
            if form.places < 5:
                self.assertEqual(console.say("turnings"), str(likeness.count_turnings(form)))

    def test_wishes_and_functions(self):
        forms = some_forms(197)
        for form in forms:
            book = Book()
            book["a"] = form
            book["b"] = forms[0]
            for wish, told in (
                (("all", "a"), fifteen.gives_all(form)), (("odd", "a"), fifteen.gives_odd(form)),
                (("primes", "a"), fifteen.gives_primes(form)), (("gives", "a", 14), writing.gives(form, 14)),
                (("misses", "a", 14), not writing.gives(form, 14)),
                (("alike", "a", "b"), likeness.alike(form, forms[0])),
                (("places", "a", 3), form.places <= 3), (("alike", "a", "a"), True),
            ):
                if told:
                    book.wish(wish)
                    self.assertEqual(book.wishes[-1], wish)
                else:
                    self.assertRaises(Broken, book.wish, wish)

    def test_certificates_and_the_checker(self):
        for form in some_forms(198):
            pairs = [certify_number(form, number) for number in (1, 2, 15, 30)]
            pairs += [certificates.certify_all(form), certificates.certify_bar(form, 15), certify_likeness(form, PAIR)]
            pairs += [certificates.certify_odd(form), certificates.certify_primes(form)]
            for pair in pairs:
                if pair is not None:
                    self.assertIs(accepts(*pair), True)
                    self.assertIs(accepts(pair[1], pair[0]), False)
                    self.assertIs(accepts(pair[0], [*pair[1]]), False)
            self.assertIs(pairs[4][0][0] == "all", fifteen.gives_all(form))
            self.assertIs(pairs[-2] is None, not fifteen.gives_odd(form))
            self.assertIs(pairs[-1] is None, not fifteen.gives_primes(form))


class TestSums(unittest.TestCase):
    def test_squares_and_forms(self):
        told = squares.diagonals(4, 10)
        for factors in ((1, 1, 1, 1), (1, 2, 5, 10), (1, 2, 5, 5), (1, 2, 4, 8), (1, 1, 4, 4), (2, 2, 2, 2)):
            self.assertIs(factors in told, fifteen.gives_all(Form.squares(factors)))
            self.assertIs(factors in squares.lone_squares(4, 10), fifteen.all_but_fifteen(Form.squares(factors)))

    def test_triangular_numbers_and_squares(self):
        """Eight times a triangular number and one more is the square of an odd number."""
        for lots in ((1, 1, 1), (1, 2), (3,), (2, 3, 5, 7), (1, 1, 3, 3, 5)):
            for number in range(1, 100):
                whole = 8 * number + sum(lots)
                odd_ones = [
                    point for point in writing.writings(Form.squares(lots), whole) if all(place % 2 for place in point)
                ] if len(lots) < 4 or number < 12 else None
                if odd_ones is not None:
                    self.assertIs(triangles.triangles_give(lots, number), odd_ones != [])
                found = triangles.triangle_writing(lots, number)
                if found is not None:
                    self.assertEqual(Form.squares(lots).value(tuple(2 * k + 1 for k in found)), whole)
