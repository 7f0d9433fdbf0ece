"""Forms of squares alone, told by their factors: those that give all numbers, and those that miss 15 alone."""

from math import isqrt

from fifteenforms.bits import NOUGHT_ALONE, all_up_to, with_parts
from fifteenforms.checks import check_within
from fifteenforms.limits import ALL, MOST_PLACES

MOST_FACTOR = 15


def diagonals(places, most):
    """The ascending tuple of all factors up to `most`, none below the one before, whose forms give all numbers."""
    return factors_with(places, most, all_up_to(ALL[-1]))


def lone_squares(places, most):
    """The same of those whose forms miss 15 alone."""
    # One that gives all numbers before 15 gives all behind it, too.
    return factors_with(places, most, all_up_to(ALL[-1] - 1))


def factors_with(places, most, goal):
    """The ascending tuple of all such factors whose forms give, up to 15, the numbers that these bits tell, no more."""
    check_within(places, 1, MOST_PLACES)
    check_within(most, 1, MOST_FACTOR)
    found = [((), NOUGHT_ALONE)]
    for _ in range(places):
        found = [
            ((*factors, factor), with_parts(sums, square_parts(factor), ALL[-1]))
            for factors, sums in found
            for factor in range(max(factors, default=1), most + 1)
        ]
    return tuple([factors for factors, sums in found if sums == goal])


def square_parts(factor):
    """The list of the squares, from 0 on, each taken as often as the factor tells, up to 15."""
    return [factor * root * root for root in range(isqrt(ALL[-1] // factor) + 1)]
