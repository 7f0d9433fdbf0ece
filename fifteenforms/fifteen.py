"""Forms that give all numbers, all odd ones or all primes, and what the others miss.

A few numbers tell whether a form gives all: so the least number that a form misses, if it misses any, is not above the
last one of these.
"""

from fifteenforms.checks import check_numbers, check_within
from fifteenforms.errors import NotSure
from fifteenforms.forms import Form, check_form
from fifteenforms.limits import ALL, ODD, PRIMES
from fifteenforms.tables import with_entry
from fifteenforms.writing import counts

MOST_MEND = 15


def gives_all(form):
    """Whether the form gives all numbers."""
    return least_missed(form) is None


def gives_odd(form):
    """Whether the form gives all odd numbers."""
    return least_odd_missed(form) is None


def gives_primes(form):
    """Whether the form gives all primes."""
    return least_prime_missed(form) is None


def least_missed(form):
    """The least number that the form misses, None if it gives all."""
    return first_missed(form, tuple(range(1, ALL[-1] + 1)))


def least_odd_missed(form):
    """The least odd number that the form misses, None if it gives all of them."""
    return first_missed(form, tuple(range(1, ODD[-1] + 1, 2)))


def least_prime_missed(form):
    """The least prime that the form misses, None if it gives all of them."""
    return first_missed(form, tuple([number for number in range(2, PRIMES[-1] + 1) if is_prime(number)]))


def is_prime(number):
    """Whether a number from 2 on is a prime."""
    return all([number % part != 0 for part in range(2, number)])


def missed(form, number):
    """The ascending tuple of all numbers up to this one that the form misses."""
    return tuple([at for at, often in enumerate(counts(form, number)) if often == 0])


def all_but_fifteen(form):
    """Whether 15 is the only number that the form misses."""
    # One that gives all numbers before 15 gives all behind it, too.
    return least_missed(form) == 15


def first_missed(form, numbers):
    """The first one of these numbers that the form misses, None if there is none."""
    check_form(form)
    check_numbers(numbers)
    often = counts(form, max(numbers, default=1))
    for number in numbers:
        if often[number] == 0:
            return number
    return None


def mends(form, most):
    """The ascending tuple of all triples of a row, a place not before it, and another entry that mends the form.

    The entry is from `-most` to `most`; with it there and across the corner, the form gives all numbers.
    """
    check_form(form)
    check_within(most, 1, MOST_MEND)
    return tuple([
        (row, place, entry)
        for row in range(form.places)
        for place in range(row, form.places)
        for entry in range(-most, most + 1)
        if entry != form.table[row][place] and is_mended(form, row, place, entry)
    ])


def is_mended(form, row, place, entry):
    """Whether the form gives all numbers with this entry there and across the corner."""
    try:
        return gives_all(Form(with_entry(form.table, row, place, entry)))
    except NotSure:
        return False
