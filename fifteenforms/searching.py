"""Finding the points at which a sure table has some values.

The places of a point are chosen from the last one to the first. When some are chosen, the value of the table is that of
the leading corner for the open places, at the open places moved by a centre, and something more, which is spent. The
centre and what is spent are integers over the determinant of this corner. Only what is spent and the centre up to whole
moves decide what can still come: so choices that leave the same are gone on with together.
"""

from math import isqrt

from fifteenforms.tables import determinant_of, determinants_with


class Step:
    """The choice of one place, those behind it being chosen.

    `here` and `below` are the determinants of the leading corners with and without this place. One whole of this place
    moves the centre of the places before it by `moves`, over `below`.
    """

    def __init__(self, table, place):
        corner = [list(row[:place]) for row in table[:place]]
        self.place = place
        self.below = determinant_of(corner)
        self.here = determinant_of([list(row[:place + 1]) for row in table[:place + 1]])
        self.moves = determinants_with(corner, list(table[place][:place]))

    def choices(self, centre, spent, most):
        """All places with values up to `most`: tuples of the place, and the next centre and what is spent then.

        A place that is `far` from its centre, over `here`, spends far * far / (here * below) more.
        """
        near = centre[self.place]
        reach = isqrt(self.below * (most * self.here - spent))
        first = (near + reach) % self.here - reach
        return [
            ((far - near) // self.here, self.moved(centre, far), (spent * self.below + far * far) // self.here)
            for far in range(first, reach + 1, self.here)
        ]

    def last_choices(self, centre, spent, goal):
        """The same for the first place, which is the last one that is chosen, with this value alone."""
        near = centre[self.place]
        room = goal * self.here - spent
        reach = isqrt(room)
        if reach * reach != room:
            return []
        fars = (-reach, reach) if reach > 0 else (0,)
        return [((far - near) // self.here, (), goal) for far in fars if (far - near) % self.here == 0]

    def moved(self, centre, far):
        """The centre of the places before this one, if this one is so far from its own, over `here`."""
        return tuple([
            (self.below * part + far * move) // self.here
            for part, move in zip(centre, self.moves)
        ])


def steps_of(table):
    """The steps of the table, that of the first place first."""
    return [Step(table, place) for place in range(len(table))]


def histogram(table, most):
    """The list of how often a table has the values 0, 1 and so on up to this one."""
    left = {((0,) * len(table), 0): 1}
    for step in steps_of(table)[::-1]:
        left = one_step_on(step, left, most)
    found = [0] * (most + 1)
    for (_, value), often in left.items():
        found[value] = often
    return found


def one_step_on(step, left, most):
    """What is left behind a step: a dict of how often each pair of a centre and what is spent comes."""
    found = {}
    for (centre, spent), often in left.items():
        for _, moved, more in step.choices(centre, spent, most):
            key = (tuple([part % step.below for part in moved]), more)
            found[key] = found.get(key, 0) + often
    return found


class Search:
    """The points at which a table has one value: all of them, or only one if that is enough."""

    def __init__(self, table, goal, one_only):
        self.steps = steps_of(table)
        self.goal = goal
        self.one_only = one_only
        self.known = {}

    def points(self):
        """The list of the points that are looked for."""
        return self.heads(len(self.steps) - 1, (0,) * len(self.steps), 0)

    def heads(self, place, centre, spent):
        """All tuples of the places up to this one that bring the value, or only one."""
        if place < 0:
            return [()]
        here = self.steps[place].here
        rest = tuple([part % here for part in centre])
        key = (rest, spent)
        if key not in self.known:
            self.known[key] = self.worked_out(place, rest, spent)
        away = [part // here for part in centre]
        return [tuple([at - off for at, off in zip(head, away)]) for head in self.known[key]]

    def worked_out(self, place, centre, spent):
        """The same, gone through choice by choice."""
        step = self.steps[place]
        if place > 0:
            choices = step.choices(centre, spent, self.goal)
        else:
            choices = step.last_choices(centre, spent, self.goal)
        found = []
        for chosen, moved, more in choices:
            for head in self.heads(place - 1, moved, more):
                found.append((*head, chosen))
            if self.one_only and len(found) > 0:
                return found
        return found
