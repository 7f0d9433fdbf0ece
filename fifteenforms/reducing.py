"""Other places for a table: such that its entries are low and its points are found with few steps.

This is the reduction of Lenstra, Lenstra and Lovasz, with integers alone.
"""

from fifteenforms.tables import corner_minors, unit_rows


def short_basis(table):
    """A pair: a table with low entries, and rows, the points of the first table that stand for its places.

    The value of the low table at a point is that of the first one at the sum of the rows, taken as often as the places
    of the point tell. So each point of the first table comes from just one of the low table.
    """
    low = [list(row) for row in table]
    rows = unit_rows(len(table))
    place = 1
    while place < len(low):
        for before in reversed(range(place)):
            minors = corner_minors(low)
            times = nearest(minors[place][before], minors[before][before])
            if times != 0:
                low = flipped(lessened(flipped(lessened(low, place, before, times)), place, before, times))
                rows = lessened(rows, place, before, times)
        if in_order(corner_minors(low), place):
            place += 1
        else:
            low = flipped(swapped(flipped(swapped(low, place)), place))
            rows = swapped(rows, place)
            place = max(1, place - 1)
    return low, rows


def nearest(part, whole):
    """The integer that is nearest to a part of a whole above 0."""
    return (2 * part + whole) // (2 * whole)


def in_order(minors, place):
    """Whether the place would not be much shorter in the place of the one before it: at least 3 of 4 parts stay.

    What counts of both is what they have besides the places before them.
    """
    inner = minors[place - 2][place - 2] if place > 1 else 1
    middle = minors[place - 1][place - 1]
    shared = minors[place][place - 1]
    return 4 * (minors[place][place] * inner + shared * shared) >= 3 * middle * middle


def flipped(rows):
    """The rows with rows and places exchanged."""
    return [list(row) for row in zip(*rows)]


def lessened(rows, at, before, times):
    """The rows, the one at `at` lessened by so many times the one at `before`."""
    less = [entry - times * other for entry, other in zip(rows[at], rows[before])]
    return rows[:at] + [less] + rows[at + 1:]


def swapped(rows, at):
    """The rows, the one at `at` exchanged with the one before it."""
    return rows[:at - 1] + [rows[at], rows[at - 1]] + rows[at + 1:]
