"""Sums and determinants of square tables of integers, given as rows."""


def pairing(table, one, two):
    """The sum of all entries, that of row i at j taken as often as place i of `one` and place j of `two` tell."""
    total = 0
    for row, often in zip(table, one):
        total += often * sum([entry * place for entry, place in zip(row, two)])
    return total


def determinant_of(rows):
    """The determinant: each entry of the first row by what is left without its row and its place."""
    if len(rows) == 0:
        return 1
    total = 0
    sign = 1
    for at, entry in enumerate(rows[0]):
        if entry != 0:
            left = [row[:at] + row[at + 1:] for row in rows[1:]]
            total += sign * entry * determinant_of(left)
        sign = -sign
    return total


def determinants_with(rows, row):
    """The determinants of the rows with this row in the place of each one of them, the first one first.

    Divided by the determinant of the rows, they are how often the rows are to be taken so that their sum is this row.
    """
    return [
        determinant_of(rows[:at] + [row] + rows[at + 1:])
        for at in range(len(rows))
    ]


def inverse_of(rows):
    """The inverse of rows with the determinant 1 or -1."""
    sign = determinant_of(rows)
    return [[sign * part for part in determinants_with(rows, unit)] for unit in unit_rows(len(rows))]


def with_entry(table, row, place, entry):
    """The table with this entry there and across the corner, as a tuple of tuples."""
    rows = [list(entries) for entries in table]
    rows[row][place] = entry
    rows[place][row] = entry
    return tuple([tuple(entries) for entries in rows])


def unit_rows(many):
    """So many rows, with 1 in row i at i and 0 elsewhere."""
    return [[1 if at == row else 0 for at in range(many)] for row in range(many)]


def sums_of(points, rows):
    """For each point the sum of the rows, taken as often as its places tell."""
    columns = list(zip(*rows))
    return [
        tuple([sum([often * entry for often, entry in zip(point, column)]) for column in columns])
        for point in points
    ]


def corner_minors(table):
    """Determinants that the leading corners of a table bring, or None if one of the corners has none above 0.

    Entry i of row i is the determinant of the leading corner of i + 1 rows. An entry before it, at j, is that of the
    leading corner of j + 1 rows with row i in the place of the last one. What stands behind is of no use.
    """
    rows = [list(row) for row in table]
    before = 1
    for corner in range(len(rows)):
        pivot = rows[corner][corner]
        if pivot <= 0:
            return None
        for low in range(corner + 1, len(rows)):
            for at in range(corner + 1, len(rows)):
                # This division leaves no rest: the entries are determinants again.
                rows[low][at] = (rows[low][at] * pivot - rows[low][corner] * rows[corner][at]) // before
        before = pivot
    return rows
