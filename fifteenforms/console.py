"""A desk by lines: each line changes the form or asks for something, and is answered by a line."""

from fifteenforms.alike import count_turnings
from fifteenforms.checks import is_number
from fifteenforms.desks import Desk
from fifteenforms.errors import InvalidLine, NoAnswer, WrongValue
from fifteenforms.fifteen import least_missed, missed
from fifteenforms.words import whole
from fifteenforms.writing import count_writings, writing

# How many integers stand behind each word; behind `grow` there are as many as places.
INTEGERS = {
    "put": 3, "leave": 1, "undo": 0,
    "gives": 1, "count": 1, "missed": 1, "least": 0, "turnings": 0, "show": 0,
}
CHANGES = ("put", "grow", "leave", "undo")
NUMBERED = ("gives", "count", "missed")


class Console:
    """A desk by lines."""

    def __init__(self, form):
        self.desk = Desk(form)

    def say(self, line):
        """The answer to a line."""
        if type(line) is not str:
            raise InvalidLine(line)
        word, *behind = line.split(" ")
        integers = [whole(part) for part in behind]
        if not is_line(word, integers, self.desk.form.places):
            raise InvalidLine(line)
        if word in CHANGES:
            return self.changed(word, integers)
        return answer(word, integers, self.desk.form)

    def changed(self, word, integers):
        """The answer to a line that changes the form."""
        try:
            self.change(word, integers)
        except (WrongValue, NoAnswer) as error:
            return type(error).__name__
        return "ok"

    def change(self, word, integers):
        """Changes the form as a line tells."""
        if word == "put":
            row, place, entry = integers
            self.desk.put(row, place, entry)
        elif word == "grow":
            self.desk.grow(tuple(integers))
        elif word == "leave":
            self.desk.leave(integers[0])
        else:
            self.desk.undo()


def is_line(word, integers, places):
    """Whether there is such a line for a form with so many places; None stands for what is no integer."""
    if None in integers or len(integers) != (places if word == "grow" else INTEGERS.get(word)):
        return False
    return word not in NUMBERED or is_number(integers[0])


def answer(word, integers, form):
    """The answer to a line that asks for something."""
    if word == "gives":
        point = writing(form, integers[0])
        return "no" if point is None else spaced(point)
    if word == "count":
        return str(count_writings(form, integers[0]))
    if word == "missed":
        return spaced(missed(form, integers[0])) or "none"
    if word == "least":
        last = least_missed(form)
        return "none" if last is None else str(last)
    if word == "turnings":
        return str(count_turnings(form))
    return str(form).replace("\n", ", ")


def spaced(integers):
    """The integers with single spaces between."""
    return " ".join([str(integer) for integer in integers])
