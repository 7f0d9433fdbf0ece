"""Checks of arguments that several files need. They ask for the very kinds of values: True is no integer here."""

from fifteenforms.errors import InvalidIndex, InvalidNumber, InvalidNumbers, InvalidPoint
from fifteenforms.limits import MOST_NUMBER


def is_row(value, many):
    """Whether it is a tuple of so many integers."""
    if type(value) is not tuple or len(value) != many:
        return False
    return all([type(entry) is int for entry in value])


def word_of(value):
    """The word that a tuple begins with, None if it is no tuple or begins with no string."""
    if type(value) is not tuple or len(value) == 0 or type(value[0]) is not str:
        return None
    return value[0]


def is_within(value, least, most):
    """Whether it is an integer within these bounds."""
    return type(value) is int and least <= value <= most


def is_number(value):
    """Whether it is a number up to the greatest that the package takes."""
    return is_within(value, 1, MOST_NUMBER)


def check_within(number, least, most):
    """Raises InvalidNumber unless it is an integer within these bounds."""
    if not is_within(number, least, most):
        raise InvalidNumber(number)


def check_number(number):
    """Raises InvalidNumber unless it is a number up to the greatest."""
    check_within(number, 1, MOST_NUMBER)


def check_numbers(numbers):
    """Raises InvalidNumbers unless it is a tuple of numbers up to the greatest."""
    if type(numbers) is not tuple:
        raise InvalidNumbers(None)
    for index, number in enumerate(numbers):
        if not is_number(number):
            raise InvalidNumbers(index)


def check_index(index, many):
    """Raises InvalidIndex unless it is an index of one of so many things."""
    if not is_within(index, 0, many - 1):
        raise InvalidIndex(index)


def check_point(point, places):
    """Raises InvalidPoint unless it is a tuple of so many integers, of any size."""
    if type(point) is not tuple or len(point) != places:
        raise InvalidPoint(None)
    for index, place in enumerate(point):
        if type(place) is not int:
            raise InvalidPoint(index)
