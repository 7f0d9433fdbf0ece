"""What the tests compare with: plain searches and sums of their own, from the document's words alone."""

from itertools import permutations, product


class Always:
    """A value that calls itself equal to everything."""

    def __eq__(self, other):
        return True

    def __ne__(self, other):
        return False


# Values that are no tuples, integers, strings or forms, or that are only nearly so.
ODD_VALUES = (None, True, False, "", "1", "1 0\n0 1", b"1", [], [1], {}, {1: 1}, set(), object(), int, Always(), len)


def leibniz(rows):
    """The determinant as the sum over all permutations."""
    total = 0
    for order in permutations(range(len(rows))):
        sign = 1
        for at in range(len(order)):
            for behind in range(at + 1, len(order)):
                if order[behind] < order[at]:
                    sign = -sign
        term = sign
        for row, at in enumerate(order):
            term *= rows[row][at]
        total += term
    return total


def value_at(table, point):
    """The sum that the document tells."""
    places = range(len(table))
    return sum(table[i][j] * point[i] * point[j] for i in places for j in places)


def without(table, place):
    """The table without the row and the entries of this place."""
    kept = [at for at in range(len(table)) if at != place]
    return [[table[i][j] for j in kept] for i in kept]


def box(table, number):
    """All points that the bound of the document allows for numbers up to this one, ascending."""
    whole = leibniz(table)
    ranges = []
    for place in range(len(table)):
        room = number * leibniz(without(table, place))
        reach = 0
        while (reach + 1) ** 2 * whole <= room:
            reach += 1
        ranges.append(range(-reach, reach + 1))
    return product(*ranges)


def points_by_value(table, number):
    """A list: behind each index up to the number the ascending list of the points with this value."""
    found = [[] for _ in range(number + 1)]
    for point in box(table, number):
        value = value_at(table, point)
        if value <= number:
            found[value].append(point)
    return found


def is_sure(table):
    """Whether the determinants of all leading corners are above 0."""
    return all(leibniz([row[:k] for row in table[:k]]) > 0 for k in range(1, len(table) + 1))


def some_tables(chance, places, top, off, many):
    """So many sure tables, the entries on the diagonal up to `top`, the others from -`off` to `off`."""
    found = []
    while len(found) < many:
        rows = [[0] * places for _ in range(places)]
        for i in range(places):
            rows[i][i] = chance.randint(1, top)
            for j in range(i):
                rows[i][j] = rows[j][i] = chance.randint(-off, off)
        if is_sure(rows):
            found.append(tuple(tuple(row) for row in rows))
    return found
