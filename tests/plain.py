"""What the tests compare with: plain searches and sums of their own, from the document's words alone."""

from functools import cache
from itertools import permutations, product
from math import isqrt, prod


class Always:
    """A value that calls itself equal to everything."""

    def __eq__(self, other):
        return True

    def __ne__(self, other):
        return False


# Values that are no tuples, integers, strings or forms, or that are only nearly so.
ODD_VALUES = (None, True, False, "", "1", "1 0\n0 1", b"1", [], [1], {}, {1: 1}, set(), object(), int, Always(), len)


def leibniz(rows):
    """The determinant as the sum over all permutations."""
    total = 0
    for order in permutations(range(len(rows))):
        sign = 1
        for at in range(len(order)):
            for behind in range(at + 1, len(order)):
                if order[behind] < order[at]:
                    sign = -sign
        term = sign
        for row, at in enumerate(order):
            term *= rows[row][at]
        total += term
    return total


def value_at(table, point):
    """The sum that the document tells."""
    places = range(len(table))
    return sum(table[i][j] * point[i] * point[j] for i in places for j in places)


def without(table, place):
    """The table without the row and the entries of this place."""
    kept = [at for at in range(len(table)) if at != place]
    return [[table[i][j] for j in kept] for i in kept]


def changed(table, row, place, entry):
    """The table with this entry there and across the corner."""
    rows = [list(entries) for entries in table]
    rows[row][place] = rows[place][row] = entry
    return tuple(tuple(entries) for entries in rows)


def box_ranges(table, number):
    """The ranges of places that the bound of the document allows for numbers up to this one."""
    whole = leibniz(table)
    ranges = []
    for place in range(len(table)):
        room = number * leibniz(without(table, place))
        reach = 0
        while (reach + 1) ** 2 * whole <= room:
            reach += 1
        ranges.append(range(-reach, reach + 1))
    return ranges


def box(table, number):
    """All points that the bound of the document allows for numbers up to this one, ascending."""
    return product(*box_ranges(table, number))


def box_size(table, number):
    """How many points the box has."""
    return prod(len(places) for places in box_ranges(table, number))


def values_over(table, ranges):
    """The set of the values at all points with places in these ranges."""
    found = set()

    def gone_on(place, value, products):
        double, entry = 2 * products[place], table[place][place]
        if place == len(table) - 1:
            found.update([value + at * (double + at * entry) for at in ranges[place]])
            return
        for at in ranges[place]:
            moved = [before + at * more for before, more in zip(products, table[place])]
            gone_on(place + 1, value + at * (double + at * entry), moved)

    gone_on(0, 0, [0] * len(table))
    return found


def missed_in_box(table, number):
    """All numbers up to this one that are no value at a point of the box, ascending."""
    found = values_over(table, box_ranges(table, number))
    return tuple(at for at in range(1, number + 1) if at not in found)


@cache
def missed_by_squares(factors, number):
    """All numbers up to this one that are no sum of squares with these factors, ascending."""
    found = {0}
    for factor in factors:
        squares = [factor * at * at for at in range(isqrt(number // factor) + 1)]
        found = {value + square for value in found for square in squares if value + square <= number}
    return tuple(at for at in range(1, number + 1) if at not in found)


def sums_of_triangles(lots, number):
    """The set of all sums up to the number of one triangular number for each lot, taken as often as it tells."""
    triangular = [0]
    while triangular[-1] <= number:
        triangular.append(triangular[-1] + len(triangular))
    found = {0}
    for lot in lots:
        found = {total + lot * more for total in found for more in triangular if total + lot * more <= number}
    return found


def all_turnings(table, other):
    """All turnings of a table into another one, as tuples of rows, found among the points of the boxes."""
    points = points_by_value(table, max(other[at][at] for at in range(len(other))))
    found = [()]
    for place, row in enumerate(other):
        found = [
            (*columns, point)
            for columns in found
            for point in points[row[place]]
            if all(product_at(table, column, point) == entry for column, entry in zip(columns, row))
        ]
    turnings = [tuple(zip(*columns)) for columns in found]
    return [rows for rows in turnings if leibniz(rows) in (1, -1)]


def product_at(table, one, two):
    """The sum that the document tells for two points."""
    places = range(len(table))
    return sum(table[i][j] * one[i] * two[j] for i in places for j in places)


def turned_by(table, rows):
    """The table into which the rows turn this one."""
    columns = list(zip(*rows))
    return tuple(tuple(product_at(table, one, two) for two in columns) for one in columns)


def drawn_turning(chance, places, steps):
    """A turning: the places in another order, with drawn signs, some taken off others so many times."""
    order = chance.sample(range(places), places)
    rows = [[chance.choice((-1, 1)) if at == order[row] else 0 for at in range(places)] for row in range(places)]
    for _ in range(steps if places > 1 else 0):
        one, two = chance.sample(range(places), 2)
        times = chance.choice((-1, 1))
        rows[one] = [entry + times * other for entry, other in zip(rows[one], rows[two])]
    return tuple(tuple(row) for row in rows)


def points_by_value(table, number):
    """A list: behind each index up to the number the ascending list of the points with this value."""
    found = [[] for _ in range(number + 1)]
    for point in box(table, number):
        value = value_at(table, point)
        if value <= number:
            found[value].append(point)
    return found


def is_sure(table):
    """Whether the determinants of all leading corners are above 0."""
    return all(leibniz([row[:k] for row in table[:k]]) > 0 for k in range(1, len(table) + 1))


def some_tables(chance, places, top, off, many):
    """So many sure tables, the entries on the diagonal up to `top`, the others from -`off` to `off`."""
    found = []
    while len(found) < many:
        rows = [[0] * places for _ in range(places)]
        for i in range(places):
            rows[i][i] = chance.randint(1, top)
            for j in range(i):
                rows[i][j] = rows[j][i] = chance.randint(-off, off)
        if is_sure(rows):
            found.append(tuple(tuple(row) for row in rows))
    return found
