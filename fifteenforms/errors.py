"""The errors of the package.

Each class stands under its base alone, so each one takes its attribute itself. Those without attributes have an
`__init__`, too: Python's own errors take any arguments.
"""


class WrongValue(ValueError):
    """A value that was passed is not valid."""

    def __init__(self):
        pass


class InvalidText(WrongValue):
    """This is no text of a form."""

    def __init__(self, given):
        self.given = given


class InvalidName(WrongValue):
    """This is no name."""

    def __init__(self, given):
        self.given = given


class InvalidNumber(WrongValue):
    """This is no number of the kind that is asked for."""

    def __init__(self, given):
        self.given = given


class InvalidWish(WrongValue):
    """This is no wish."""

    def __init__(self, given):
        self.given = given


class InvalidIndex(WrongValue):
    """This is no index of what is there."""

    def __init__(self, given):
        self.given = given


class InvalidLine(WrongValue):
    """This is no line of the console."""

    def __init__(self, given):
        self.given = given


class NotAForm(WrongValue):
    """This is no form."""

    def __init__(self, given):
        self.given = given


class InvalidTable(WrongValue):
    """A row of the table is wrong, or with None the table."""

    def __init__(self, index):
        self.index = index


class InvalidPoint(WrongValue):
    """A place of the point is wrong, or with None the point."""

    def __init__(self, index):
        self.index = index


class InvalidTurning(WrongValue):
    """A row of the turning is wrong, or with None the turning."""

    def __init__(self, index):
        self.index = index


class InvalidLots(WrongValue):
    """One of the lots is wrong, or with None all of them."""

    def __init__(self, index):
        self.index = index


class InvalidNumbers(WrongValue):
    """One of the numbers is wrong, or with None all of them."""

    def __init__(self, index):
        self.index = index


class InvalidForms(WrongValue):
    """One of the forms is wrong, or with None all of them."""

    def __init__(self, index):
        self.index = index


class InvalidDeeds(WrongValue):
    """One of the deeds is wrong, or with None all of them."""

    def __init__(self, index):
        self.index = index


class WrongName(LookupError):
    """A name that was passed is not there."""

    def __init__(self):
        pass


class UnknownName(WrongName):
    """The book has no such name."""

    def __init__(self, given):
        self.given = given


class NoAnswer(ArithmeticError):
    """The values are valid, but there is no answer."""

    def __init__(self):
        pass


class NotSure(NoAnswer):
    """The table has a value not above 0 besides that at noughts."""

    def __init__(self):
        pass


class TooGreat(NoAnswer):
    """This comes out greater than the package allows."""

    def __init__(self, given):
        self.given = given


class Broken(NoAnswer):
    """The wish with this index would not hold."""

    def __init__(self, index):
        self.index = index


class InUse(NoAnswer):
    """The wish with this index names it."""

    def __init__(self, index):
        self.index = index


class NothingToUndo(NoAnswer):
    """There is no change that can be taken back."""

    def __init__(self):
        pass
