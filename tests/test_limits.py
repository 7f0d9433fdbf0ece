"""The limits, each name with its value."""

import unittest

from fifteenforms import limits


class TestLimits(unittest.TestCase):
    def test_each_name_has_its_value(self):
        expected = {
            "MOST_PLACES": 5,
            "MOST_ENTRY": 1000,
            "MOST_NUMBER": 1000,
            "MOST_LOTS": 6,
            "MOST_FORMS": 20,
            "MOST_GROWN": 3,
            "ALL": (1, 2, 3, 5, 6, 7, 10, 14, 15),
            "ODD": (1, 3, 5, 7, 11, 15, 33),
            "PRIMES": (2, 3, 5, 7, 11, 13, 17, 19, 23, 29, 31, 37, 41, 43, 47, 67, 73),
            "TRIANGLES": (1, 2, 4, 5, 8),
        }
        for name, value in expected.items():
            with self.subTest(name=name):
                self.assertEqual(getattr(limits, name), value)
                self.assertIs(type(getattr(limits, name)), type(value))

    def test_primes_are_those_the_document_tells(self):
        primes = [n for n in range(2, 48) if all(n % k for k in range(2, n))]
        self.assertEqual(limits.PRIMES, (*primes, 67, 73))
