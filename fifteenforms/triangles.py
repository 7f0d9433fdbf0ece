"""Sums of triangular numbers, each one taken as often as its lot tells."""

from math import isqrt

from fifteenforms.bits import NOUGHT_ALONE, is_sum, with_parts
from fifteenforms.checks import check_number, is_number
from fifteenforms.errors import InvalidLots
from fifteenforms.limits import MOST_LOTS, TRIANGLES


def triangles_give(lots, number):
    """Whether the lots give the number."""
    return triangle_writing(lots, number) is not None


def triangles_all(lots):
    """Whether the lots give all numbers."""
    return least_triangle_missed(lots) is None


def least_triangle_missed(lots):
    """The least number that the lots miss, None if they give all."""
    check_lots(lots)
    # A few numbers tell whether all are given: so the least missed one, if there is one, is not above the last of them.
    most = TRIANGLES[-1]
    sums = leading_sums(lots, most)[-1]
    for number in range(1, most + 1):
        if not is_sum(number, sums):
            return number
    return None


def triangle_writing(lots, number):
    """Any tuple of the k with which the number comes as a sum of k * (k + 1) / 2, None if the lots miss it."""
    check_lots(lots)
    check_number(number)
    sums = leading_sums(lots, number)
    if not is_sum(number, sums[-1]):
        return None
    found = ()
    left = number
    # From the last lot to the first one: what is left must be a sum of the lots before.
    for lot, before in reversed(list(zip(lots, sums))):
        parts = lot_parts(lot, left)
        root = min([k for k, part in enumerate(parts) if is_sum(left - part, before)])
        found = (root, *found)
        left -= parts[root]
    return found


def leading_sums(lots, most):
    """The bits of the sums up to `most` of the first lots: of none of them, of the first one, of two, and so on."""
    sums = [NOUGHT_ALONE]
    for lot in lots:
        sums.append(with_parts(sums[-1], lot_parts(lot, most), most))
    return sums


def lot_parts(lot, most):
    """The list of the triangular numbers, from 0 on, each taken as often as the lot tells, up to `most`."""
    last = (isqrt(8 * (most // lot) + 1) - 1) // 2
    return [lot * (k * (k + 1) // 2) for k in range(last + 1)]


def check_lots(lots):
    """Raises InvalidLots unless these are lots."""
    if type(lots) is not tuple or len(lots) == 0:
        raise InvalidLots(None)
    for index, lot in enumerate(lots):
        if index == MOST_LOTS or not is_number(lot):
            raise InvalidLots(index)
