"""Determinants and inverses, compared with sums over all permutations."""

import random
import unittest

from fifteenforms.tables import determinant_of, determinants_with, inverse_of, sums_of, unit_rows
from tests.helping import unit
from tests.plain import drawn_turning, leibniz


class TestTables(unittest.TestCase):
    def test_determinants(self):
        chance = random.Random(71)
        for places in range(6):
            for _ in range(20):
                rows = [[chance.randint(-9, 9) for _ in range(places)] for _ in range(places)]
                self.assertEqual(determinant_of(rows), leibniz(rows))
                row = [chance.randint(-9, 9) for _ in range(places)]
                self.assertEqual(
                    determinants_with(rows, row),
                    [leibniz(rows[:at] + [row] + rows[at + 1:]) for at in range(places)],
                )

    def test_inverses(self):
        chance = random.Random(72)
        seen = set()
        for places in range(1, 6):
            for steps in range(12):
                rows = [list(row) for row in drawn_turning(chance, places, steps)]
                seen.add(determinant_of(rows))
                inverse = inverse_of(rows)
                self.assertEqual(sums_of(inverse, rows), list(unit(places)))
                self.assertEqual(sums_of(rows, inverse), list(unit(places)))
        self.assertEqual(seen, {1, -1})

    def test_sums(self):
        found = sums_of([(1, 0), (0, 1), (2, -3)], [(1, 2, 3), (4, 5, 6)])
        self.assertEqual(found, [(1, 2, 3), (4, 5, 6), (-10, -11, -12)])
        self.assertEqual(sums_of([], [(1, 2)]), [])
        self.assertEqual(unit_rows(2), [[1, 0], [0, 1]])
