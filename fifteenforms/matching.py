"""Turnings of one sure table into another one with the same determinant, both low.

The columns of a turning are points of the first table, one for each place of the other one, the goal, with the values
and products that the goal tells. They are looked for place by place.
"""

from fifteenforms.searching import Search
from fifteenforms.tables import unit_rows


class Matching:
    """The search for turnings of a table into goals. What was found for one goal is kept for the others."""

    def __init__(self, low):
        self.low = low
        self.known = {}

    def first(self, goal):
        """The columns of any turning into the goal, None if there is none."""
        return self.completed(goal, self.candidates(goal))

    def count_own(self):
        """How many turnings of the table into itself there are.

        Of those that leave the first places at rest, equally many bring the next place to each point to which it can
        come. So the numbers of these points are multiplied; the first one stands for half of its points.
        """
        lists = self.candidates(self.low)
        total = 2
        for unit in unit_rows(len(self.low)):
            fitting = [point for point in lists[0] if self.completed_with(self.low, lists, point) is not None]
            total *= len(fitting)
            lists = self.narrowed(self.low, lists, unit)
        return total

    def candidates(self, goal):
        """For each place of the goal the list of the points with its value, but for the first place half of them.

        For with all signs turned, a turning is another one.
        """
        lists = [self.points(row[at]) for at, row in enumerate(goal)]
        noughts = (0,) * len(goal)
        return [[point for point in lists[0] if point > noughts]] + lists[1:]

    def points(self, value):
        """The list of the points with this value."""
        if value not in self.known:
            self.known[value] = Search(self.low, value, False).points()
        return self.known[value]

    def completed(self, goal, lists):
        """Any points that fit together, one of each of these lists for the last places of the goal, or None."""
        if len(lists) == 0:
            return []
        for point in lists[0]:
            behind = self.completed_with(goal, lists, point)
            if behind is not None:
                return [point] + behind
        return None

    def completed_with(self, goal, lists, point):
        """The same for the places behind the first one of these, which is given this point."""
        fitting = self.narrowed(goal, lists, point)
        if [] in fitting:
            return None
        return self.completed(goal, fitting)

    def narrowed(self, goal, lists, point):
        """The lists behind the first one, with the points alone that have the right products with this point."""
        place = len(goal) - len(lists)
        image = [sum([entry * at for entry, at in zip(row, point)]) for row in self.low]
        return [
            [other for other in points if sum([part * at for part, at in zip(image, other)]) == entry]
            for entry, points in zip(goal[place][place + 1:], lists[1:])
        ]
