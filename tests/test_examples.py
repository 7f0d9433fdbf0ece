"""The examples of the document, as they stand there."""

import unittest

from fifteenforms.alike import alike, count_turnings, turning
from fifteenforms.books import Book
from fifteenforms.certificates import certify_all, certify_bar, certify_likeness, certify_number, certify_odd
from fifteenforms.certificates import certify_primes
from fifteenforms.checker import accepts
from fifteenforms.console import Console
from fifteenforms.desks import Desk
from fifteenforms.errors import Broken, InvalidLine, NotSure
from fifteenforms.fifteen import all_but_fifteen, first_missed, gives_all, gives_odd, gives_primes
from fifteenforms.fifteen import least_missed, least_odd_missed, least_prime_missed, mends, missed
from fifteenforms.forms import Form
from fifteenforms.growing import grown, tree
from fifteenforms.guesses import confused, fitting
from fifteenforms.rests import bar, barred_rests, is_barred, rests
from fifteenforms.squares import diagonals, lone_squares
from fifteenforms.triangles import least_triangle_missed, triangle_writing, triangles_all, triangles_give
from fifteenforms.writing import count_writings, counts, first_unlike, gives, least_value, writing, writings

four, miss, six = Form.squares((1, 1, 1, 1)), Form.squares((1, 2, 5, 5)), Form(((2, 1), (1, 2)))
pair = Form.squares((1, 1))
three, mixed = Form.squares((1, 1, 1)), Form.squares((1, 1, 2))
far = Form(((5, 7), (7, 10)))


class TestForms(unittest.TestCase):
    def test_first(self):
        self.assertEqual(
            [
                str(six), repr(four), six.determinant, six.value((1, -1)), six.value((3, 2)),
                six.product((1, 0), (3, 2)), miss.table[2], Form.read("1 0\n0 2").beside(six).table,
            ],
            [
                "2 1\n1 2", "Form of 4 places", 3, 2, 38, 8, (0, 0, 5, 0),
                ((1, 0, 0, 0), (0, 2, 0, 0), (0, 0, 2, 1), (0, 0, 1, 2)),
            ],
        )

    def test_second(self):
        self.assertEqual(
            [
                six.turned(((1, 1), (0, 1))).table, six.turned(((0, 1), (1, 0))) == six,
                miss.part((2, 1)).table, miss.diagonal,
            ],
            [((2, 3), (3, 6)), True, ((5, 0), (0, 2)), (1, 2, 5, 5)],
        )

    def test_third(self):
        with self.assertRaises(NotSure):
            Form(((1, 1), (1, 1)))

    def test_the_grown_form_of_the_definitions(self):
        grown = Form.read("1 0 1\n0 2 1\n1 1 5")
        self.assertEqual(grown.part((0, 1)), Form.read("1 0\n0 2"))
        self.assertFalse(gives(Form.read("1 0\n0 2"), 5))
        self.assertTrue(gives(grown, 5))


class TestWriting(unittest.TestCase):
    def test_first(self):
        self.assertEqual(
            [gives(miss, 14), gives(miss, 15), writing(pair, 3), writings(pair, 2), writings(six, 2)],
            [
                True, False, None, ((-1, -1), (-1, 1), (1, -1), (1, 1)),
                ((-1, 0), (-1, 1), (0, -1), (0, 1), (1, -1), (1, 0)),
            ],
        )

    def test_second(self):
        self.assertEqual(
            [
                count_writings(four, 1), count_writings(four, 2), count_writings(four, 5),
                count_writings(pair, 25), count_writings(six, 14),
            ],
            [8, 24, 48, 12, 12],
        )

    def test_third(self):
        self.assertEqual(
            [
                least_value(six), first_unlike(pair, Form.squares((1, 2)), 10),
                first_unlike(pair, Form(((1, 1), (1, 2))), 50), first_unlike(four, miss, 9), counts(pair, 5),
            ],
            [2, 1, None, 1, (1, 4, 4, 0, 4, 8)],
        )


class TestFifteen(unittest.TestCase):
    def test_first(self):
        self.assertEqual(
            [
                gives_all(four), gives_all(miss), all_but_fifteen(miss), least_missed(three), least_missed(mixed),
                gives_odd(mixed), gives_primes(mixed), gives_odd(three),
            ],
            [True, False, True, 7, 14, True, True, False],
        )

    def test_second(self):
        self.assertEqual(
            [
                least_missed(four), least_odd_missed(pair), least_prime_missed(pair), least_prime_missed(three),
                missed(three, 31), missed(six, 7), missed(pair, 8),
            ],
            [None, 3, 3, 7, (7, 15, 23, 28, 31), (1, 3, 4, 5, 7), (3, 6, 7)],
        )

    def test_third(self):
        self.assertEqual(
            [
                first_missed(pair, (5, 7, 3)), first_missed(four, (999,)), mends(three, 5), (3, 3, 6) in mends(miss, 6),
                mends(Form.squares((1, 1, 1, 8)), 2)[-1],
            ],
            [7, None, (), True, (3, 3, 2)],
        )


class TestRests(unittest.TestCase):
    def test_first(self):
        self.assertEqual(
            [
                rests(pair, 4), rests(six, 6), barred_rests(three, 8), bar(three, 7), bar(three, 15), bar(pair, 6),
                bar(miss, 15), is_barred(six, 4, 9),
            ],
            [(0, 1, 2), (0, 2), (7,), 8, 8, 8, None, True],
        )

    def test_those_of_the_definitions(self):
        self.assertEqual(rests(three, 8), (0, 1, 2, 3, 4, 5, 6))
        self.assertEqual([number for number in range(1, 32) if is_barred(three, 8, number)], [7, 15, 23, 31])
        self.assertEqual(missed(miss, 1000), (15,))


class TestAlike(unittest.TestCase):
    def test_first(self):
        self.assertEqual(
            [
                alike(pair, Form(((1, 1), (1, 2)))), alike(pair, Form.squares((1, 2))), turning(six, pair),
                count_turnings(pair), count_turnings(six), count_turnings(Form.squares((1, 2))), count_turnings(three),
            ],
            [True, False, None, 8, 12, 4, 48],
        )

    def test_second(self):
        self.assertIs(pair.turned(turning(pair, far)) == far, True)


class TestGrowing(unittest.TestCase):
    def test_first(self):
        self.assertEqual(
            [
                len(grown(Form.squares((1,)))), len(grown(pair)), len(grown(Form.squares((1, 2)))),
                [len(tree(1)), len(tree(2)), len(tree(3))], grown(four),
            ],
            [2, 3, 8, [1, 2, 9], None],
        )


class TestTriangles(unittest.TestCase):
    def test_first(self):
        self.assertEqual(
            [
                triangles_all((1, 1, 1)), least_triangle_missed((1, 1, 3)), least_triangle_missed((1, 2)),
                triangle_writing((1, 2), 9), triangles_give((1, 2), 4), least_triangle_missed((2, 3)),
            ],
            [True, 8, 4, (2, 2), False, 1],
        )


class TestSquares(unittest.TestCase):
    def test_first(self):
        self.assertEqual(
            [diagonals(3, 15), diagonals(4, 1), len(diagonals(4, 15)), lone_squares(4, 6), diagonals(4, 14)[-1]],
            [(), ((1, 1, 1, 1),), 54, ((1, 2, 5, 5),), (1, 2, 5, 10)],
        )


class TestGuesses(unittest.TestCase):
    def test_first(self):
        self.assertEqual(
            [
                fitting((pair, three, six, mixed), (2, 14), ()), fitting((pair, three, mixed), (5,), (7,)),
                fitting((), (), ()), confused((pair, three, pair, Form(((5, 7), (7, 10)))), 30),
            ],
            [(1, 2), (0, 1), (), ((0, 2), (0, 3), (2, 3))],
        )


class TestDesks(unittest.TestCase):
    def test_first(self):
        desk = Desk(Form.squares((1, 2)))
        self.assertEqual(
            [
                desk.grow((1, 1)), desk.form.table, desk.put(2, 0, 0), least_missed(desk.form), desk.changes,
                desk.past[0] == Form.squares((1, 2)),
            ],
            [None, ((1, 0, 1), (0, 2, 1), (1, 1, 5)), None, 7, 2, True],
        )
        with self.assertRaises(NotSure):
            desk.put(0, 1, 2)


class TestBooks(unittest.TestCase):
    def test_first(self):
        book = Book()
        self.assertEqual(
            [
                book.do_all(("put", "main", four), ("wish", ("all", "main")), ("wish", ("gives", "main", 7))),
                book.names, book.changes,
            ],
            [3, ("main",), 3],
        )
        with self.assertRaises(Broken) as caught:
            book.do_all(("put", "main", miss))
        self.assertEqual(caught.exception.index, 0)


class TestCertificates(unittest.TestCase):
    def test_first(self):
        claim, paper = certify_all(three)
        self.assertEqual(
            [
                claim, len(paper), accepts(claim, paper), accepts(claim, paper[:5]), certify_number(miss, 15),
                certify_bar(pair, 6), certify_bar(miss, 15),
            ],
            [
                ("not all", "1 0 0\n0 1 0\n0 0 1", 7), 6, True, False,
                (("misses", "1 0 0 0\n0 2 0 0\n0 0 5 0\n0 0 0 5", 15), ()), (("barred", "1 0\n0 1", 8, 6), ()), None,
            ],
        )

    def test_second(self):
        self.assertEqual(
            [
                certify_all(four)[0][0], len(certify_all(four)[1]), certify_likeness(pair, six)[0][0],
                accepts(("alike", "1 0\n0 1", "1 1\n1 2"), ((1, 1), (0, 1))), len(certify_odd(mixed)[1]),
                certify_primes(mixed)[0][0], certify_odd(three),
            ],
            ["all", 9, "unlike", True, 7, "primes", None],
        )


class TestConsole(unittest.TestCase):
    def test_first(self):
        console = Console(Form.squares((1, 1)))
        self.assertEqual(
            [
                console.say("least"), console.say("grow 1 1"), console.say("show"), console.say("least"),
                console.say("gives 7"), console.say("count 1"), console.say("put 0 0 -1"), console.say("missed 16"),
                console.say("undo"), console.say("turnings"), console.say("leave 2"),
            ],
            ["3", "ok", "1 0 1, 0 1 1, 1 1 3", "7", "no", "6", "NotSure", "7 15", "ok", "8", "InvalidIndex"],
        )
        with self.assertRaises(InvalidLine) as caught:
            console.say("gives 07")
        self.assertEqual(caught.exception.given, "gives 07")
