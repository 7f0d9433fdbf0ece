"""A desk: a form that is changed entry by entry, grown, turned and cut."""

from fifteenforms.checks import check_index, check_within, is_within
from fifteenforms.errors import InvalidPoint, TooGreat
from fifteenforms.fifteen import least_missed
from fifteenforms.forms import Form, check_form
from fifteenforms.growing import bordered
from fifteenforms.limits import MOST_ENTRY, MOST_PLACES
from fifteenforms.tables import with_entry
from fifteenforms.trials import History, Trial


class Desk:
    """A form that is changed."""

    def __init__(self, form):
        check_form(form)
        self.history = History(form, ())

    @property
    def form(self):
        """The form as it is now."""
        return self.history.now

    @property
    def changes(self):
        """How many changes can be taken back."""
        return len(self.history.before)

    @property
    def past(self):
        """The tuple of the forms as they were ahead of each of these changes, the first one first."""
        return self.history.before

    def put(self, row, place, entry):
        """Gives this value to an entry and the one across the corner."""
        check_index(row, self.form.places)
        check_index(place, self.form.places)
        check_within(entry, -MOST_ENTRY, MOST_ENTRY)
        self.change_to(Form(with_entry(self.form.table, row, place, entry)))

    def grow(self, row):
        """Makes the form the one of those into which it grows that has these other entries in its last row."""
        check_last_row(row, self.form.places)
        if self.form.places == MOST_PLACES:
            raise TooGreat(MOST_PLACES)
        last = least_missed(self.form)
        if last is None:
            raise TooGreat(0)
        self.change_to(Form(bordered(self.form.table, row, last)))

    def turn(self, rows):
        """Makes the form the one into which these rows turn it."""
        self.change_to(self.form.turned(rows))

    def leave(self, place):
        """Makes the form that of all other places."""
        check_index(place, self.form.places)
        if self.form.places == 1:
            raise TooGreat(1)
        self.change_to(self.form.part(tuple([at for at in range(self.form.places) if at != place])))

    def change_to(self, form):
        """Makes this the form, as a change that can be taken back."""
        self.history = self.history.followed_by(form)

    def undo(self):
        """Takes back the last change."""
        self.history = self.history.taken_back()

    def trial(self):
        """For a `with` statement: when its rows end, the desk is as it was when they began."""
        return Trial(self)

    def tried(self, action):
        """What the function returns that is called with the desk in a trial."""
        with self.trial() as desk:
            return action(desk)


def check_last_row(row, places):
    """Raises InvalidPoint unless it is a tuple of so many integers that may be entries."""
    if type(row) is not tuple or len(row) != places:
        raise InvalidPoint(None)
    for index, entry in enumerate(row):
        if not is_within(entry, -MOST_ENTRY, MOST_ENTRY):
            raise InvalidPoint(index)
