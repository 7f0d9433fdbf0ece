"""Growing forms by the least numbers that they miss."""

from math import isqrt

from fifteenforms.alike import unlike_ones
from fifteenforms.checks import check_within
from fifteenforms.errors import TooGreat
from fifteenforms.fifteen import least_missed
from fifteenforms.forms import Form
from fifteenforms.limits import MOST_GROWN
from fifteenforms.tables import determinant_of


def grown(form):
    """Any tuple of forms into which the form grows, just one of all that are alike; None if it gives all numbers."""
    last = least_missed(form)
    if last is None:
        return None
    if form.places > MOST_GROWN:
        raise TooGreat(form.places)
    found = [Form(bordered(form.table, row, last)) for row in last_rows(form.table, last)]
    return tuple(unlike_ones(found))


def last_rows(table, last):
    """The other entries of the last rows with which the table stays sure, with `last` as the last entry.

    Of two rows that differ by all signs only one is told, for the forms with them are alike.
    """
    fronts = [()]
    for at, row in enumerate(table):
        reach = isqrt(last * row[at])
        noughts = (0,) * (at + 1)
        longer = [(*front, entry) for front in fronts for entry in range(-reach, reach + 1)]
        fronts = [
            front for front in longer
            if front >= noughts and determinant_of(bordered(table, front, last)) > 0
        ]
    return fronts


def bordered(table, front, last):
    """The leading corner of the table for as many places as `front` has, with `front` and `last` as a row more."""
    rows = [row[:len(front)] + (entry,) for row, entry in zip(table, front)]
    return (*rows, (*front, last))


def tree(places):
    """Any tuple of forms that come by growing from nothing, with so many places, just one of all that are alike."""
    check_within(places, 1, MOST_GROWN)
    forms = [Form(((1,),))]
    for _ in range(1, places):
        forms = unlike_ones([other for form in forms for other in grown(form)])
    return tuple(forms)
