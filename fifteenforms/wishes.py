"""Wishes about forms under names: tuples of a word, one or two names, and for some words a number."""

from fifteenforms.alike import alike
from fifteenforms.checks import is_number, word_of
from fifteenforms.fifteen import gives_all, gives_odd, gives_primes
from fifteenforms.writing import gives

# How many elements a wish with each word has.
SIZES = {"all": 2, "odd": 2, "primes": 2, "gives": 3, "misses": 3, "alike": 3, "places": 3}
NUMBERED = ("gives", "misses", "places")


def is_wish(value):
    """Whether it has the form of a wish, whatever stands in the places of names."""
    word = word_of(value)
    if word not in SIZES or len(value) != SIZES[word]:
        return False
    return word not in NUMBERED or is_number(value[2])


def is_about(wish, name):
    """Whether a wish of a book names it."""
    return name in wish[1:]


def holds(wish, forms):
    """Whether a wish holds for these forms, a dict of them under their names."""
    form = form_under(wish[1], forms)
    if form is None:
        return False
    if wish[0] == "alike":
        other = form_under(wish[2], forms)
        return other is not None and alike(form, other)
    if wish[0] in NUMBERED:
        return holds_with(wish[0], form, wish[2])
    return gives_what(wish[0], form)


def holds_with(word, form, number):
    """Whether what the word tells of a form and a number is so."""
    if word == "places":
        return form.places <= number
    return gives(form, number) == (word == "gives")


def gives_what(word, form):
    """Whether the form gives all numbers of the kind that the word tells."""
    if word == "all":
        return gives_all(form)
    if word == "odd":
        return gives_odd(form)
    return gives_primes(form)


def form_under(name, forms):
    """The form under this name, None if there is none, whatever is passed as a name."""
    return forms.get(name) if type(name) is str else None
