"""The rests of forms by a modulus, and the numbers that they bar."""

from fifteenforms.checks import check_number, check_within
from fifteenforms.forms import check_form

LEAST_MODULUS = 2
MOST_MODULUS = 16


def rests(form, modulus):
    """The ascending tuple of the rests of the form by the modulus."""
    check_form(form)
    check_within(modulus, LEAST_MODULUS, MOST_MODULUS)
    left = [(0, (0,) * form.places)]
    found = [0]
    for at, row in enumerate(form.table):
        # The open places may stay 0, so there is nothing more to find once all are there.
        if len(found) < modulus:
            left = one_place_on(left, row[at:], modulus)
            found = sorted({value for value, _ in left})
    return tuple(found)


def one_place_on(left, row, modulus):
    """What is left when one place more is chosen, in each way.

    Of the places chosen so far only the value and twice the products with each open place count, by the modulus. The
    first open place, of which `row` has the entries from its own one on, is the one that is chosen.
    """
    found = {}
    for value, doubled in left:
        for place in range(modulus):
            more = (value + place * (doubled[0] + place * row[0])) % modulus
            moved = [(before + 2 * place * entry) % modulus for before, entry in zip(doubled[1:], row[1:])]
            found[(more, tuple(moved))] = True
    return list(found)


def is_barred(form, modulus, number):
    """Whether the modulus bars the number."""
    check_form(form)
    check_within(modulus, LEAST_MODULUS, MOST_MODULUS)
    check_number(number)
    return number % modulus not in rests(form, modulus)


def bar(form, number):
    """The least modulus that bars the number, None if there is none."""
    check_form(form)
    check_number(number)
    for modulus in range(LEAST_MODULUS, MOST_MODULUS + 1):
        if is_barred(form, modulus, number):
            return modulus
    return None


def barred_rests(form, modulus):
    """The ascending tuple of the integers from 0 on below the modulus that are none of the rests of the form."""
    found = rests(form, modulus)
    return tuple([rest for rest in range(modulus) if rest not in found])
