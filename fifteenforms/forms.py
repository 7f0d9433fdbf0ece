"""Forms: sure tables, and what is made of them."""

from fifteenforms.checks import check_numbers, check_point, is_row
from fifteenforms.errors import InvalidNumbers, InvalidPoint, InvalidTable, InvalidText, InvalidTurning
from fifteenforms.errors import NotAForm, NotSure, TooGreat
from fifteenforms.limits import MOST_ENTRY, MOST_PLACES
from fifteenforms.tables import corner_minors, determinant_of, pairing
from fifteenforms.words import whole


class Form:
    """A form: a sure table, the same across the corner."""

    def __init__(self, table):
        check_table(table)
        minors = corner_minors(table)
        if minors is None:
            raise NotSure()
        self._table = table
        self._determinant = minors[-1][-1]

    @staticmethod
    def read(text):
        """The form with this text."""
        if type(text) is not str:
            raise InvalidText(text)
        table = tuple([tuple([whole(word) for word in line.split(" ")]) for line in text.split("\n")])
        try:
            return Form(table)
        except (InvalidTable, NotSure):
            raise InvalidText(text) from None

    @staticmethod
    def squares(factors):
        """The form of squares with these factors."""
        if type(factors) is not tuple or not 1 <= len(factors) <= MOST_PLACES:
            raise InvalidNumbers(None)
        check_numbers(factors)
        return Form(tuple([
            tuple([factor if at == row else 0 for at in range(len(factors))])
            for row, factor in enumerate(factors)
        ]))

    @property
    def table(self):
        """The table as it was passed."""
        return self._table

    @property
    def places(self):
        """How many places there are."""
        return len(self._table)

    @property
    def determinant(self):
        """The determinant of the table."""
        return self._determinant

    @property
    def diagonal(self):
        """The entries of row 0 at 0, row 1 at 1, and so on."""
        return tuple([row[at] for at, row in enumerate(self._table)])

    def product(self, one, two):
        """The sum of all entries, that of row i at j taken as often as place i of `one` and place j of `two` tell."""
        check_point(one, self.places)
        check_point(two, self.places)
        return pairing(self._table, one, two)

    def value(self, point):
        """The value at a point."""
        check_point(point, self.places)
        return pairing(self._table, point, point)

    def beside(self, other):
        """The form with the places of this one and, behind them, those of the other one, without products between."""
        check_form(other)
        together = self.places + other.places
        if together > MOST_PLACES:
            raise TooGreat(together)
        front = [row + (0,) * other.places for row in self._table]
        behind = [(0,) * self.places + row for row in other.table]
        return Form(tuple(front + behind))

    def turned(self, rows):
        """The form into which these rows turn this one."""
        check_turning(rows, self.places)
        points = list(zip(*rows))
        table = tuple([tuple([pairing(self._table, one, two) for two in points]) for one in points])
        for row in table:
            for entry in row:
                if not -MOST_ENTRY <= entry <= MOST_ENTRY:
                    raise TooGreat(entry)
        return Form(table)

    def part(self, indexes):
        """The form of some places, in this order."""
        if type(indexes) is not tuple or len(indexes) == 0:
            raise InvalidPoint(None)
        for index, place in enumerate(indexes):
            if type(place) is not int or not 0 <= place < self.places or place in indexes[:index]:
                raise InvalidPoint(index)
        return Form(tuple([tuple([self._table[row][at] for at in indexes]) for row in indexes]))

    def __eq__(self, other):
        return type(other) is Form and self._table == other._table

    def __str__(self):
        return "\n".join([" ".join([str(entry) for entry in row]) for row in self._table])

    def __repr__(self):
        return f"Form of {self.places} places"


def check_form(form):
    """Raises NotAForm unless it is a form."""
    if type(form) is not Form:
        raise NotAForm(form)


def check_table(table):
    """Raises InvalidTable unless it is a table; whether it is sure is not asked."""
    if type(table) is not tuple or not 1 <= len(table) <= MOST_PLACES:
        raise InvalidTable(None)
    for index, row in enumerate(table):
        if not is_row(row, len(table)):
            raise InvalidTable(index)
        for at, entry in enumerate(row):
            if not -MOST_ENTRY <= entry <= MOST_ENTRY:
                raise InvalidTable(index)
            if at < index and entry != table[at][index]:
                raise InvalidTable(index)


def check_turning(rows, places):
    """Raises InvalidTurning unless it is a turning of a form with so many places."""
    if type(rows) is not tuple or len(rows) != places:
        raise InvalidTurning(None)
    for index, row in enumerate(rows):
        if not is_row(row, places):
            raise InvalidTurning(index)
    if determinant_of(rows) not in (1, -1):
        raise InvalidTurning(None)
