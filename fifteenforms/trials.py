"""What desks and books share: changes that can be taken back, and trials.

What is changed is the keeper of a history, its attribute `history`, and takes another one for each change.
"""

from fifteenforms.errors import NothingToUndo


class History:
    """What is there now, and what was there ahead of each change that can be taken back. It never changes itself."""

    def __init__(self, now, before):
        self.now = now
        self.before = before

    def followed_by(self, now):
        """The history behind a change to this."""
        return History(now, (*self.before, self.now))

    def taken_back(self):
        """The history without its last change."""
        if len(self.before) == 0:
            raise NothingToUndo()
        return History(self.before[-1], self.before[:-1])


class Begun:
    """One time that a trial was entered: the history at that time, and the one in which it was entered, if any."""

    def __init__(self, history, outer):
        self.history = history
        self.outer = outer


class Trial:
    """For a `with` statement: when its rows end, its keeper has the history again that it had at their begin."""

    def __init__(self, keeper):
        self.keeper = keeper
        self.inmost = None

    def __enter__(self):
        self.inmost = Begun(self.keeper.history, self.inmost)
        return self.keeper

    def __exit__(self, kind, value, trace):
        keeper = self.keeper
        keeper.history = self.inmost.history
        self.inmost = self.inmost.outer
