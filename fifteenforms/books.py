"""A book: forms under names, and wishes that hold after each change."""

from fifteenforms.checks import check_index, word_of
from fifteenforms.errors import Broken, InUse, InvalidDeeds, InvalidName, InvalidWish, UnknownName
from fifteenforms.forms import check_form
from fifteenforms.trials import History, Trial
from fifteenforms.wishes import holds, is_about, is_wish

MOST_LETTERS = 8

# How many elements a deed with each word has.
DEEDS = {"put": 3, "drop": 2, "wish": 2, "lift": 2}


class Page:
    """What a book has at one time: a dict of its forms under their names, and the tuple of its wishes.

    It never changes itself: a change of the book is another page.
    """

    def __init__(self, forms, wanted):
        self.forms = forms
        self.wanted = wanted


class Book:
    """Forms under names, and wishes about them."""

    def __init__(self):
        self.history = History(Page({}, ()), ())

    def __setitem__(self, name, form):
        check_name(name)
        check_form(form)
        page = self.history.now
        forms = dict(page.forms)
        forms[name] = form
        for index, wish in enumerate(page.wanted):
            # What is wished of the others holds as it did.
            if is_about(wish, name) and not holds(wish, forms):
                raise Broken(index)
        self.change_to(Page(forms, page.wanted))

    def __getitem__(self, name):
        if name not in self:
            raise UnknownName(name)
        return self.history.now.forms[name]

    def __contains__(self, value):
        return type(value) is str and value in self.history.now.forms

    def __len__(self):
        return len(self.history.now.forms)

    def __iter__(self):
        # Without this, Python would ask for the names 0, 1 and so on.
        raise TypeError("a book tells its names by its property")

    @property
    def names(self):
        """The ascending tuple of the names."""
        return tuple(sorted(list(self.history.now.forms)))

    @property
    def wishes(self):
        """The tuple of the wishes as they were passed, in their order."""
        return self.history.now.wanted

    @property
    def changes(self):
        """How many changes can be taken back."""
        return len(self.history.before)

    def drop(self, name):
        """Takes a name away, and its form."""
        if name not in self:
            raise UnknownName(name)
        page = self.history.now
        for index, wish in enumerate(page.wanted):
            if is_about(wish, name):
                raise InUse(index)
        self.change_to(Page({other: form for other, form in page.forms.items() if other != name}, page.wanted))

    def wish(self, wish):
        """Adds a wish behind the others."""
        if not is_wish(wish):
            raise InvalidWish(wish)
        page = self.history.now
        if not holds(wish, page.forms):
            raise Broken(len(page.wanted))
        self.change_to(Page(page.forms, (*page.wanted, wish)))

    def lift(self, index):
        """Takes a wish away."""
        page = self.history.now
        check_index(index, len(page.wanted))
        self.change_to(Page(page.forms, page.wanted[:index] + page.wanted[index + 1:]))

    def change_to(self, page):
        """Makes this the page, as a change that can be taken back."""
        self.history = self.history.followed_by(page)

    def undo(self):
        """Takes back the last change."""
        self.history = self.history.taken_back()

    def do_all(self, *deeds, watch=None):
        """Does all of these deeds or, if one fails, none; returns their number. `watch` is called behind each one."""
        check_deeds(deeds)
        left = self.history
        try:
            for deed in deeds:
                self.do_one(deed)
                if watch is not None:
                    watch(self)
            left = self.history
        finally:
            self.history = left
        return len(deeds)

    def do_one(self, deed):
        """Does one deed."""
        if deed[0] == "put":
            self[deed[1]] = deed[2]
        elif deed[0] == "drop":
            self.drop(deed[1])
        elif deed[0] == "wish":
            self.wish(deed[1])
        else:
            self.lift(deed[1])

    def trial(self):
        """For a `with` statement: when its rows end, the book is as it was when they began."""
        return Trial(self)

    def tried(self, action):
        """What the function returns that is called with the book in a trial."""
        with self.trial() as book:
            return action(book)


def check_name(name):
    """Raises InvalidName unless it may be a name."""
    if type(name) is not str or not 1 <= len(name) <= MOST_LETTERS or not all(["a" <= sign <= "z" for sign in name]):
        raise InvalidName(name)


def check_deeds(deeds):
    """Raises InvalidDeeds unless each of these has the form of a deed."""
    for index, deed in enumerate(deeds):
        word = word_of(deed)
        if word not in DEEDS or len(deed) != DEEDS[word]:
            raise InvalidDeeds(index)
