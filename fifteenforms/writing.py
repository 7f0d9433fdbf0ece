"""The writings of numbers by forms."""

from fifteenforms.checks import check_number
from fifteenforms.forms import check_form
from fifteenforms.reducing import short_basis
from fifteenforms.searching import Search, histogram
from fifteenforms.tables import sums_of


def gives(form, number):
    """Whether the form gives the number."""
    return writing(form, number) is not None


def writing(form, number):
    """Any writing of the number, None if there is none."""
    check_form(form)
    check_number(number)
    found = points_found(form, number, True)
    return found[0] if len(found) > 0 else None


def writings(form, number):
    """The ascending tuple of all writings of the number."""
    check_form(form)
    check_number(number)
    return tuple(sorted(points_found(form, number, False)))


def count_writings(form, number):
    """How many writings of the number there are."""
    return counts(form, number)[number]


def least_value(form):
    """The least number that the form gives."""
    check_form(form)
    low, _ = short_basis(form.table)
    bound = min([row[at] for at, row in enumerate(low)])
    often = histogram(low, bound)
    return min([number for number in range(1, bound + 1) if often[number] > 0])


def counts(form, number):
    """The tuple of how often the form has the values 0, 1 and so on up to this number."""
    check_form(form)
    check_number(number)
    low, _ = short_basis(form.table)
    return tuple(histogram(low, number))


def first_unlike(form, other, number):
    """The least number up to this one that the two forms give unlike often, None if there is none."""
    check_form(form)
    check_form(other)
    check_number(number)
    for at, (one, two) in enumerate(zip(counts(form, number), counts(other, number))):
        if one != two:
            return at
    return None


def points_found(form, number, one_only):
    """A list of all writings of the number, or of one of them if one is enough."""
    low, rows = short_basis(form.table)
    return sums_of(Search(low, number, one_only).points(), rows)
