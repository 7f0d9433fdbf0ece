"""Claims for the checker about forms, with certificates."""

from fifteenforms.alike import turning
from fifteenforms.fifteen import gives_odd, gives_primes, least_missed
from fifteenforms.limits import ALL, ODD, PRIMES
from fifteenforms.rests import bar
from fifteenforms.writing import writing


def certify_number(form, number):
    """A claim that the form gives the number, or that it misses it, and a certificate."""
    point = writing(form, number)
    if point is None:
        return ("misses", str(form), number), ()
    return ("gives", str(form), number), point


def certify_bar(form, number):
    """A claim that the least modulus that bars the number does so, and a certificate; None if there is none."""
    modulus = bar(form, number)
    if modulus is None:
        return None
    return ("barred", str(form), modulus, number), ()


def certify_all(form):
    """A claim that the form gives all numbers, or about the least one that it misses, and a certificate."""
    last = least_missed(form)
    if last is None:
        return ("all", str(form)), writings_of(form, ALL)
    return ("not all", str(form), last), writings_of(form, tuple(range(1, last)))


def certify_odd(form):
    """A claim that the form gives all odd numbers, and a certificate; None if it does not."""
    if not gives_odd(form):
        return None
    return ("odd", str(form)), writings_of(form, ODD)


def certify_primes(form):
    """A claim that the form gives all primes, and a certificate; None if it does not."""
    if not gives_primes(form):
        return None
    return ("primes", str(form)), writings_of(form, PRIMES)


def certify_likeness(form, other):
    """A claim that the forms are alike, or that they are not, and a certificate."""
    rows = turning(form, other)
    if rows is None:
        return ("unlike", str(form), str(other)), ()
    return ("alike", str(form), str(other)), rows


def writings_of(form, numbers):
    """The tuple of a writing of each of these numbers."""
    return tuple([writing(form, number) for number in numbers])
