"""The checker, compared with the tests' own judgement: what is accepted, and what is not with one thing otherwise."""

import random

from fifteenforms.checker import accepts
from fifteenforms.errors import Broken
from fifteenforms.forms import Form
from tests.helping import Refusing
from tests.judging import SHOWING, accepted, lacked
from tests.plain import ODD_VALUES, all_turnings, drawn_turning, points_by_value, some_tables, turned_by

PAIR, SIX, FAR = "1 0\n0 1", "2 1\n1 2", "5 7\n7 10"
THREE, MIXED = "1 0 0\n0 1 0\n0 0 1", "1 0 0\n0 1 0\n0 0 2"
FOUR = "1 0 0 0\n0 1 0 0\n0 0 1 0\n0 0 0 1"
MISS = "1 0 0 0\n0 2 0 0\n0 0 5 0\n0 0 0 5"
HALF = "1 0 1\n0 2 1\n1 1 5"

WORDS = ("gives", "misses", "all", "odd", "primes", "not all", "barred", "alike", "unlike")

# A writing of each number up to 7 by four squares, and of those that show that all are given.
SQUARES = {
    1: (0, 0, -1, 0), 2: (1, 1, 0, 0), 3: (1, 1, 0, -1), 5: (0, 2, 1, 0), 6: (2, 1, 1, 0), 7: (-2, 1, 1, 1),
    10: (3, 0, 0, 1), 14: (1, -2, 3, 0), 15: (3, 2, 1, 1),
}

# Each kind of claims, with certificates.
GOOD = (
    (("gives", PAIR, 5), (-1, 2)),
    (("gives", SIX, 14), (-3, 1)),
    (("gives", FOUR, 1), (0, 0, 1, 0)),
    (("gives", "1000", 1000), (-1,)),
    (("gives", FOUR, 1000), (30, 10, 0, 0)),
    (("misses", PAIR, 3), ()),
    (("misses", SIX, 1), ()),
    (("misses", THREE, 28), ()),
    (("misses", MISS, 15), ()),
    (("misses", "7", 1000), ()),
    (("all", FOUR), tuple(SQUARES.values())),
    (("odd", FOUR), tuple({**SQUARES, 11: (3, 1, 1, 0), 33: (4, 4, 1, 0)}[number] for number in SHOWING["odd"])),
    (("not all", PAIR, 3), ((1, 0), (-1, 1))),
    (("not all", "1", 2), ((-1,),)),
    (("not all", SIX, 1), ()),
    (("not all", THREE, 7), ((1, 0, 0), (0, 1, 1), (1, 1, -1), (0, 0, 2), (0, 2, 1), (1, 2, 1))),
    (("barred", PAIR, 4, 3), ()),
    (("barred", PAIR, 8, 6), ()),
    (("barred", THREE, 8, 15), ()),
    (("barred", SIX, 2, 1), ()),
    (("barred", "16 0 0\n0 16 0\n0 0 16", 16, 8), ()),
    (("alike", PAIR, "1 1\n1 2"), ((1, 1), (0, 1))),
    (("alike", PAIR, PAIR), ((0, 1), (-1, 0))),
    (("alike", "3", "3"), ((-1,),)),
    (("alike", SIX, "2 3\n3 6"), ((1, 1), (0, 1))),
    (("alike", HALF, HALF), ((1, 0, 0), (0, 1, 0), (0, 0, 1))),
    (("unlike", PAIR, SIX), ()),
    (("unlike", PAIR, THREE), ()),
    (("unlike", "2 0\n0 6", "3 0\n0 4"), ()),
    (("unlike", "3", "2"), ()),
)


def others(value):
    """Values that are like this one but for one thing, somewhere in it."""
    yield from (None, True, False, "", [], {}, (value,), [value])
    if type(value) is int:
        yield from (value + 1, value - 1, -value, value + 1000, 0, 1, 1001, 10 ** 79, str(value), bool(value))
    elif type(value) is str:
        yield from (value + " ", value + "\n", value + "0", value[1:], value.upper(), value.title(), value.encode())
        yield from (sign + value for sign in (" ", "+", "-", "0"))
        yield from (value.replace(" ", space) for space in ("  ", "\t", "\n"))
        yield from (value.replace("\n", space) for space in (" ", "\n\n", "\r\n", ","))
        yield from (value.replace("0", "-0"), value.split("\n"))
        yield from (value.replace("1", one) for one in ("+1", "01", "1.0", "2", "-1"))
    elif type(value) is tuple:
        yield from (list(value), value + (0,), value + (1,), value + ((),), value + value, value[::-1])
        for at, part in enumerate(value):
            yield value[:at] + value[at + 1:]
            yield value[:at] + (part, part) + value[at + 1:]
            for other in others(part):
                yield value[:at] + (other,) + value[at + 1:]


class TestAccepts(Refusing):
    def judged(self, claim, certificate):
        """Asks that just what is judged so is accepted."""
        found, told = accepts(claim, certificate), accepted(claim, certificate)
        if found is not told:
            self.fail((claim, certificate, found))
        return found

    def test_all_kinds_of_claims(self):
        for claim, certificate in GOOD:
            with self.subTest(claim=claim):
                self.assertIs(accepts(claim, certificate), True)
                self.assertIs(accepts(certificate=certificate, claim=claim), True)
                self.assertIs(accepted(claim, certificate), True)

    def test_claims_with_one_thing_otherwise(self):
        seen = {True: 0, False: 0}
        for claim, certificate in GOOD:
            for other in others(claim):
                seen[self.judged(other, certificate)] += 1
        # So many are true, too: a text with other entries and the same writing, or a number that is missed, too.
        self.assertGreater(seen[False], 2000)
        self.assertGreater(seen[True], 20)

    def test_certificates_with_one_thing_otherwise(self):
        seen = {True: 0, False: 0}
        for claim, certificate in GOOD:
            for other in others(certificate):
                seen[self.judged(claim, other)] += 1
        self.assertGreater(seen[False], 2000)
        self.assertGreater(seen[True], 20)

    def test_primes(self):
        points = points_by_value(((1, 0, 0), (0, 1, 0), (0, 0, 2)), 73)
        certificate = tuple(points[number][0] for number in SHOWING["primes"])
        self.assertIs(accepts(("primes", MIXED), certificate), True)
        for other in others(certificate):
            self.judged(("primes", MIXED), other)
        for other in others(("primes", MIXED)):
            self.judged(other, certificate)
        for word in ("odd", "all", "prime", "Primes"):
            self.assertIs(accepts((word, MIXED), certificate), False)
        certificate = tuple(points[number][-1] for number in SHOWING["odd"])
        self.assertIs(accepts(("odd", MIXED), certificate), True)
        self.assertIs(accepts(("all", MIXED), certificate), False)

    def test_each_certificate_with_each_claim(self):
        for claim, _ in GOOD:
            for _, certificate in GOOD:
                self.judged(claim, certificate)

    def test_values_of_every_kind(self):
        nested = ()
        for _ in range(18):
            nested = (nested, [nested])[:1]
        values = (*ODD_VALUES, 5, -1, 10 ** 79, PAIR, "gives", (), ((),), ("gives",), ("gives", PAIR), ("all",), nested,
                  Form(((1,),)), Broken(1), (None,) * 9, ({}, [], set()), (("gives", PAIR, 5), (1, 2)), [("all", FOUR)])
        for claim in (*values, *(claim for claim, _ in GOOD)):
            for certificate in (*values, *(certificate for _, certificate in GOOD[:3])):
                found = accepts(claim, certificate)
                self.assertIs(type(found), bool)
                if (claim, certificate) not in GOOD:
                    self.assertIs(found, accepted(claim, certificate))
        for word in (*WORDS, "x"):
            for one in values:
                for two in values:
                    for claim in ((word, one), (word, PAIR, one), (word, one, two), (word, PAIR, one, two)):
                        self.assertIs(accepts(claim, ()), accepted(claim, ()))
                        self.assertIs(type(accepts(claim, two)), bool)

    def test_words_in_the_claim(self):
        for value in ODD_VALUES:
            for claim, certificate in GOOD:
                self.assertIs(accepts((value, *claim[1:]), certificate), False)
        for claim, certificate in GOOD:
            for word in (*WORDS, "notall", "any"):
                self.judged((word, *claim[1:]), certificate)

    def test_numbers_up_to_the_bound(self):
        point = (0, 0, 0, 31)
        self.assertIs(accepts(("gives", FOUR, 961), point), True)
        for number in (0, 1001, 1024, -961, True, "961", None):
            self.assertIs(accepts(("gives", FOUR, number), point), False)
        self.assertIs(accepts(("gives", FOUR, 1001), (31, 6, 2, 0)), False)
        self.assertIs(accepts(("gives", FOUR, 0), (0, 0, 0, 0)), False)
        self.assertIs(accepts(("misses", "7", 1001), ()), False)
        self.assertIs(accepts(("misses", "7", 0), ()), False)
        self.assertIs(accepts(("not all", SIX, 0), ()), False)
        self.assertIs(accepts(("barred", SIX, 2, 1001), ()), False)
        self.assertIs(accepts(("barred", SIX, 2, 999), ()), True)
        self.assertIs(accepts(("gives", "1", True), (1,)), False)
        self.assertIs(accepts(("gives", "1", 1), (True,)), False)

    def test_the_least_missed_number(self):
        # 15 is missed, but 7 is, too; all but 3 are given.
        points = points_by_value(((1, 0, 0), (0, 1, 0), (0, 0, 1)), 15)
        told = tuple(points[number][0] if points[number] else (0, 0, 0) for number in range(1, 15))
        self.assertIs(accepts(("not all", THREE, 15), told), False)
        self.assertIs(accepts(("not all", THREE, 8), told[:7]), False)
        self.assertIs(accepts(("not all", THREE, 6), told[:5]), False)
        self.assertIs(accepts(("not all", THREE, 7), told[:6]), True)
        self.assertIs(accepts(("not all", FOUR, 1), ()), False)

    def test_moduli(self):
        for modulus in (*range(-2, 40), 64, True, None, "8", 10 ** 79):
            self.assertIs(accepts(("barred", THREE, modulus, 7), ()), modulus == 8)
            self.assertIs(accepts(("barred", THREE, modulus, 28), ()), False)
            self.assertIs(accepts(("barred", SIX, modulus, 3), ()), modulus == 2 and modulus is not True)

    def test_turnings(self):
        chance = random.Random(151)
        for places in (1, 2, 3):
            for table in some_tables(chance, places, 5, 2, 6):
                rows = drawn_turning(chance, places, 3)
                other = turned_by(table, rows)
                claim = ("alike", str(Form(table)), str(Form(other)))
                self.assertIs(accepts(claim, rows), True)
                told = all_turnings(table, other)
                for change in others(rows):
                    if self.judged(claim, change):
                        self.assertIn(change, told)
                for right in told:
                    self.assertIs(accepts(claim, right), True)
                double = tuple(tuple(2 * entry for entry in row) for row in rows)
                self.assertIs(accepts(claim, double), False)
                self.assertIs(accepts(claim, ()), False)
                self.assertIs(accepts(("unlike", *claim[1:]), ()), False)
                self.assertIs(accepts(("unlike", *claim[1:]), rows), False)

    def test_turnings_to_forms_with_other_places(self):
        self.assertIs(accepts(("alike", PAIR, "1"), ((1, 0), (0, 1))), False)
        self.assertIs(accepts(("alike", "1", PAIR), ((1, 0), (0, 1))), False)
        self.assertIs(accepts(("alike", PAIR, THREE), ((1, 0), (0, 1))), False)
        self.assertIs(accepts(("alike", "1", "4"), ((2,),)), False)
        # It leads to a table with entries that are too great for a form.
        self.assertIs(accepts(("alike", PAIR, FAR), ((1, 10 ** 80), (0, 1))), False)

    def test_great_texts(self):
        for text in (
            "1" * 4000, " " * 4000, "1 0\n" * 999, "1 " * 1999 + "1", "\n" * 4000, "1001", "-5", "0", "1 2\n2 1",
            "1 0\n1 2",
        ):
            for claim in (("misses", text, 5), ("gives", text, 1), ("all", text), ("not all", text, 1)):
                self.assertIs(accepts(claim, ()), False)
            self.assertIs(accepts(("unlike", text, PAIR), ()), False)
            self.assertIs(accepts(("unlike", PAIR, text), ()), False)
        self.assertIs(accepts(("misses", "1000", 999), ()), True)

    def test_drawn_numbers(self):
        chance = random.Random(152)
        for places in (1, 2, 3):
            for table in some_tables(chance, places, 9, 3, 6):
                text = str(Form(table))
                missing = lacked(table, 40)
                for number in range(1, 41):
                    self.assertIs(accepts(("misses", text, number), ()), number in missing)
                points = points_by_value(table, 40)
                for number in range(1, 41):
                    for point in points[number][:2]:
                        self.assertIs(accepts(("gives", text, number), point), True)
                        self.assertIs(accepts(("gives", text, number - 1), point), False)

    def test_nothing_is_changed_that_is_passed(self):
        claim, certificate = ["gives", PAIR, 5], [1, 2]
        self.assertIs(accepts(claim, certificate), False)
        self.assertEqual((claim, certificate), (["gives", PAIR, 5], [1, 2]))
