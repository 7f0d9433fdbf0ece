"""Likeness of forms: whether they are the same but for another choice of places.

Both forms are brought to low tables first, for which the points that come into question are few.
"""

from fifteenforms.forms import check_form
from fifteenforms.matching import Matching
from fifteenforms.reducing import short_basis
from fifteenforms.tables import inverse_of, sums_of


def alike(form, other):
    """Whether the forms are alike."""
    return turning(form, other) is not None


def turning(form, other):
    """Any turning of the first form into the other one, None if there is none."""
    check_form(form)
    check_form(other)
    if form.places != other.places or form.determinant != other.determinant:
        return None
    low, rows = short_basis(form.table)
    goal, goal_rows = short_basis(other.table)
    points = Matching(low).first(goal)
    if points is None:
        return None
    # From the places of the other form to those of the goal, from there to those of the low table, and to the form's.
    columns = sums_of(sums_of(inverse_of(goal_rows), points), rows)
    return tuple(zip(*columns))


def count_turnings(form):
    """How many turnings of the form into itself there are."""
    check_form(form)
    low, _ = short_basis(form.table)
    return Matching(low).count_own()


def unlike_ones(forms):
    """A list of some of these forms, with as many places each: just one of all that are alike to one another."""
    kept = []
    kinds = {}
    for form in forms:
        low, _ = short_basis(form.table)
        same = kinds.setdefault(form.determinant, [])
        if not is_among(low, same):
            same.append(Matching(low))
            kept.append(form)
    return kept


def is_among(low, kinds):
    """Whether a low table comes by a turning from one of those that have the same determinant."""
    for kind in kinds:
        if kind.low == low or kind.first(low) is not None:
            return True
    return False
