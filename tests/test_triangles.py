"""Sums of triangular numbers, compared with sums of the tests' own."""

import random
import unittest
from itertools import permutations, product

from fifteenforms.errors import InvalidLots, InvalidNumber
from fifteenforms.limits import TRIANGLES
from fifteenforms.triangles import least_triangle_missed, triangle_writing, triangles_all, triangles_give
from tests.helping import Refusing
from tests.plain import ODD_VALUES, sums_of_triangles

SOME_LOTS = (
    (1,), (2,), (3,), (1000,), (999,), (1, 1), (1, 2), (2, 1), (2, 3), (1, 1000), (500, 500), (7, 7), (1, 1, 1),
    (1, 1, 3), (3, 1, 1), (1, 1, 2), (1, 1, 4), (1, 1, 5), (1, 2, 2), (1, 2, 3), (1, 2, 4), (2, 2, 2), (5, 6, 7),
    (1, 1, 3, 8), (1, 1, 3, 9), (1, 1, 3, 3), (1, 2, 3, 4), (4, 4, 4, 4), (1000,) * 4, (3, 5, 7, 11),
    (1,) * 5, (2, 3, 5, 7, 11), (1000, 1, 1000, 1, 1000), (1,) * 6, (6, 5, 4, 3, 2, 1), (1000,) * 6,
    (2, 2, 2, 2, 2, 2), (1, 10, 100, 1000, 10, 1), (997, 3, 991, 2, 983, 5),
)


def drawn_lots(chance, many):
    return [
        tuple(chance.randint(1, top) for _ in range(chance.randint(1, 6)))
        for top in (3, 9, 40, 1000) for _ in range(many)
    ]


class TestTriangles(unittest.TestCase):
    def compare(self, lots, numbers):
        told = sums_of_triangles(lots, 1000)
        for number in numbers:
            self.assertIs(triangles_give(lots, number), number in told, (lots, number))
            found = triangle_writing(lots, number)
            if number not in told:
                self.assertIsNone(found, (lots, number))
                continue
            self.assertIs(type(found), tuple)
            self.assertEqual([type(k) for k in found], [int] * len(lots))
            self.assertGreaterEqual(min(found), 0)
            self.assertEqual(sum(lot * k * (k + 1) // 2 for lot, k in zip(lots, found)), number, (lots, number))
        lacked = next((number for number in range(1, 1000) if number not in told), None)
        self.assertEqual(least_triangle_missed(lots), lacked, lots)
        self.assertIs(triangles_all(lots), lacked is None, lots)

    def test_all_numbers(self):
        for lots in SOME_LOTS:
            self.compare(lots, range(1, 1001))

    def test_all_small_lots(self):
        for many in (1, 2, 3):
            for lots in product(range(1, 9), repeat=many):
                self.compare(lots, (1, 2, 3, 4, 5, 6, 7, 8, 9, 20, 1000))

    def test_drawn_lots(self):
        chance = random.Random(81)
        for lots in drawn_lots(chance, 12):
            self.compare(lots, (*range(1, 12), *chance.sample(range(12, 1000), 20), 1000))

    def test_the_order_of_lots_does_not_matter(self):
        for lots in ((1, 2, 3), (2, 3, 5, 5), (1, 4, 60, 800)):
            for other in permutations(lots):
                self.assertEqual(least_triangle_missed(other), least_triangle_missed(lots))
                for number in (1, 8, 9, 61, 62, 803, 1000):
                    self.assertEqual(triangles_give(other, number), triangles_give(lots, number))
                self.compare(other, (1, 5, 8, 9, 63, 804, 1000))

    def test_known_ones(self):
        self.assertIs(triangles_all((1, 1, 1)), True)
        # Of three lots these alone give all numbers.
        told = [lots for lots in product(range(1, 10), repeat=3) if list(lots) == sorted(lots) and triangles_all(lots)]
        self.assertEqual(told, [(1, 1, 1), (1, 1, 2), (1, 1, 4), (1, 1, 5), (1, 2, 2), (1, 2, 3), (1, 2, 4)])
        self.assertEqual(least_triangle_missed((1, 1, 3)), 8)
        self.assertEqual(triangle_writing((1, 2), 9), (2, 2))
        self.assertEqual(triangle_writing((1000,), 1000), (1,))
        self.assertIsNone(triangle_writing((1000,), 999))
        # Each of the five numbers is the least one that some lots miss.
        self.assertEqual(sorted({least_triangle_missed(lots) for lots in SOME_LOTS} - {None}), list(TRIANGLES))

    def test_equal_calls_return_equal_results(self):
        for lots in SOME_LOTS:
            for number in (1, 30, 1000):
                self.assertEqual(triangle_writing(lots, number), triangle_writing(tuple(list(lots)), number))

    def test_by_name(self):
        self.assertIs(triangles_give(number=9, lots=(1, 2)), True)
        self.assertEqual(triangle_writing(number=9, lots=(1, 2)), (2, 2))
        self.assertIs(triangles_all(lots=(2, 3)), False)
        self.assertEqual(least_triangle_missed(lots=(2, 3)), 1)


class TestWrongArguments(Refusing):
    def no_lots(self, index, lots):
        for call in (triangles_all, least_triangle_missed):
            self.refused(InvalidLots, "index", index, call, lots)
            self.refused(InvalidLots, "index", index, call, lots=lots)
        for call in (triangles_give, triangle_writing):
            self.refused(InvalidLots, "index", index, call, lots, 5)
            # The lots are asked ahead of the number.
            self.refused(InvalidLots, "index", index, call, lots, 0)
            self.refused(InvalidLots, "index", index, call, number=True, lots=lots)

    def test_no_tuple_or_none(self):
        for value in (*ODD_VALUES, 5, [1, 1, 1], (), "111", b"123", {1: 2}):
            self.no_lots(None, value)

    def test_elements(self):
        for value in (*ODD_VALUES, 0, -1, 1001, 10 ** 79, (1,), (), [1]):
            for many in range(1, 7):
                for index in range(many):
                    self.no_lots(index, (1,) * index + (value,) + (1,) * (many - index - 1))
            self.no_lots(0, (value, value))
            self.no_lots(2, (1, 1000, value, 0, 1, 1))

    def test_seven(self):
        for lots in ((1,) * 7, (1000,) * 8, tuple(range(1, 30)), (1,) * 6 + (0,), (1,) * 6 + (True,)):
            self.no_lots(6, lots)
        for value in (0, None, 1001, True):
            self.no_lots(5, (1,) * 5 + (value, 1))
            self.no_lots(0, (value,) + (1,) * 6)
            self.no_lots(3, (1, 1, 1, value, 1, 1, value))

    def test_numbers(self):
        for value in (*ODD_VALUES, 0, -1, 1001, 10 ** 79, (5,)):
            for call in (triangles_give, triangle_writing):
                self.refused(InvalidNumber, "given", value, call, (1, 1, 1), value)
                self.refused(InvalidNumber, "given", value, call, number=value, lots=(1,))

    def test_the_bounds_are_accepted(self):
        for lots in ((1,), (1000,), (1,) * 6, (1000,) * 6):
            for number in (1, 1000):
                self.assertEqual(triangles_give(lots, number), number in sums_of_triangles(lots, 1000))
