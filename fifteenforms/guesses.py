"""Which of several forms can have given what was seen, and which of them give each number as often."""

from fifteenforms.checks import check_number, check_numbers
from fifteenforms.errors import InvalidForms
from fifteenforms.forms import Form
from fifteenforms.limits import MOST_FORMS
from fifteenforms.writing import counts


def fitting(forms, given, lacked):
    """The ascending tuple of the indexes of the forms that give all numbers of `given` and miss all of `lacked`."""
    check_forms(forms)
    check_numbers(given)
    check_numbers(lacked)
    return tuple([index for index, form in enumerate(forms) if is_fitting(form, given, lacked)])


def is_fitting(form, given, lacked):
    """Whether the form gives all of these numbers and misses all of those."""
    often = counts(form, max(given + lacked, default=1))
    return all([often[number] > 0 for number in given]) and all([often[number] == 0 for number in lacked])


def confused(forms, number):
    """The ascending tuple of all pairs of indexes of forms that give each number up to this one as often."""
    check_forms(forms)
    check_number(number)
    told = [counts(form, number) for form in forms]
    return tuple([
        (one, two)
        for one in range(len(told))
        for two in range(one + 1, len(told))
        if told[one] == told[two]
    ])


def check_forms(forms):
    """Raises InvalidForms unless it is a tuple of forms, not too many."""
    if type(forms) is not tuple:
        raise InvalidForms(None)
    for index, form in enumerate(forms):
        if index == MOST_FORMS or type(form) is not Form:
            raise InvalidForms(index)
