"""Whether wishes hold and claims are true, by the tests' own searches."""

import re
from functools import cache

from tests.plain import all_turnings, is_sure, leibniz, missed_by_squares, missed_in_box, turned_by, value_at
from tests.plain import values_over

FAR = 100

WHOLE = "(?:0|-?[1-9][0-9]*)"
LINE = re.compile(f"{WHOLE}(?: {WHOLE})*")

# The numbers whose writings show that all numbers, all odd ones, all primes are given.
SHOWING = {
    "all": (1, 2, 3, 5, 6, 7, 10, 14, 15),
    "odd": (1, 3, 5, 7, 11, 15, 33),
    "primes": (2, 3, 5, 7, 11, 13, 17, 19, 23, 29, 31, 37, 41, 43, 47, 67, 73),
}


@cache
def lacked(table, number):
    """All numbers up to this one that the table misses, ascending."""
    if all(entry == 0 for i, row in enumerate(table) for j, entry in enumerate(row) if i != j):
        return missed_by_squares(tuple(row[at] for at, row in enumerate(table)), number)
    return missed_in_box(table, number)


def is_prime(number):
    return number > 1 and all(number % part for part in range(2, number))


@cache
def plainly_alike(table, other):
    return len(table) == len(other) and leibniz(table) == leibniz(other) and len(all_turnings(table, other)) > 0


def judged(wish, tables):
    """Whether the wish holds for these tables, a dict of them under their names."""
    word, name, *rest = wish
    if type(name) is not str or name not in tables:
        return False
    table = tables[name]
    if word == "all":
        return lacked(table, FAR) == ()
    if word == "odd":
        return not any(number % 2 for number in lacked(table, FAR))
    if word == "primes":
        return not any(is_prime(number) for number in lacked(table, FAR))
    if word == "gives":
        return rest[0] not in lacked(table, rest[0])
    if word == "misses":
        return rest[0] in lacked(table, rest[0])
    if word == "places":
        return len(table) <= rest[0]
    return type(rest[0]) is str and rest[0] in tables and plainly_alike(table, tables[rest[0]])


def table_of(text):
    """The table with this text, None if it is no text of a form."""
    if type(text) is not str:
        return None
    lines = text.split("\n")
    if not all(LINE.fullmatch(line) for line in lines):
        return None
    table = tuple(tuple(int(word) for word in line.split(" ")) for line in lines)
    if len(table) > 5 or any(len(row) != len(table) for row in table):
        return None
    if table != tuple(zip(*table)) or any(abs(entry) > 1000 for row in table for entry in row):
        return None
    return table if is_sure(table) else None


def is_row(value, many):
    return type(value) is tuple and len(value) == many and all(type(entry) is int for entry in value)


def are_rows(value, rows, many):
    return type(value) is tuple and len(value) == rows and all(is_row(row, many) for row in value)


def are_writings(table, numbers, value):
    """Whether these are writings of the numbers, in their order."""
    if not are_rows(value, len(numbers), len(table)):
        return False
    return all(value_at(table, point) == number for number, point in zip(numbers, value))


@cache
def least_bar(table, number):
    """The least modulus up to 16 that bars the number, None if there is none."""
    for modulus in range(2, 17):
        values = values_over(table, [range(modulus)] * len(table))
        if number % modulus not in {value % modulus for value in values}:
            return modulus
    return None


def accepted(claim, certificate):
    """Whether the claim is one for the checker and true, and the certificate one for it."""
    if type(claim) is not tuple or len(claim) < 2 or type(claim[0]) is not str:
        return False
    word, text, *rest = claim
    table = table_of(text)
    if table is None:
        return False
    if word in SHOWING:
        return rest == [] and are_writings(table, SHOWING[word], certificate)
    if word in ("alike", "unlike"):
        return len(rest) == 1 and accepted_pair(word, table, table_of(rest[0]), certificate)
    if len(rest) != (2 if word == "barred" else 1) or type(rest[-1]) is not int or not 1 <= rest[-1] <= 1000:
        return False
    number = rest[-1]
    empty = type(certificate) is tuple and len(certificate) == 0
    if word == "gives":
        return are_writings(table, (number,), (certificate,))
    if word == "misses":
        return empty and number in lacked(table, number)
    if word == "barred":
        return empty and type(rest[0]) is int and least_bar(table, number) == rest[0]
    if word == "not all":
        return lacked(table, number) == (number,) and are_writings(table, tuple(range(1, number)), certificate)
    return False


def accepted_pair(word, table, other, certificate):
    """The same for claims of two forms."""
    if other is None:
        return False
    if word == "unlike":
        return type(certificate) is tuple and len(certificate) == 0 and not plainly_alike(table, other)
    places = len(table)
    if not are_rows(certificate, places, places) or leibniz(certificate) not in (1, -1):
        return False
    return turned_by(table, certificate) == other
