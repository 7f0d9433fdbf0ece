"""The checker of claims: it reads the forms from their texts, and accepts nothing that is not true."""

from fifteenforms.alike import alike
from fifteenforms.checks import is_number, word_of
from fifteenforms.errors import InvalidPoint, InvalidText, InvalidTurning, TooGreat
from fifteenforms.forms import Form
from fifteenforms.limits import ALL, ODD, PRIMES
from fifteenforms.rests import bar
from fifteenforms.writing import gives


def accepts(claim, certificate):
    """Whether this is a claim for the checker, and a certificate for it, whatever both are."""
    word = word_of(claim)
    if word not in CHECKS or len(claim) == 1:
        return False
    form = form_of(claim[1])
    if form is None:
        return False
    check = CHECKS[word]
    return check(form, claim[2:], certificate)


def form_of(text):
    """The form with this text, None if it is no text of a form."""
    try:
        return Form.read(text)
    except InvalidText:
        return None


def is_nothing(value):
    """Whether it is the tuple without elements."""
    return type(value) is tuple and len(value) == 0


def is_lone_number(rest):
    """Whether this rest of a claim is a number alone."""
    return len(rest) == 1 and is_number(rest[0])


def is_writing(form, number, value):
    """Whether it is a writing of the number."""
    try:
        return form.value(value) == number
    except InvalidPoint:
        return False


def are_writings(form, numbers, value):
    """Whether it is a tuple of a writing of each of the numbers, in their order."""
    if type(value) is not tuple or len(value) != len(numbers):
        return False
    return all([is_writing(form, number, point) for number, point in zip(numbers, value)])


def shows_given(form, rest, certificate):
    """Whether the form gives the number, and this is a writing of it."""
    return is_lone_number(rest) and is_writing(form, rest[0], certificate)


def shows_missed(form, rest, certificate):
    """Whether the form misses the number."""
    return is_lone_number(rest) and is_nothing(certificate) and not gives(form, rest[0])


def shows_all(form, rest, certificate):
    """Whether these are writings that show that the form gives all numbers."""
    return is_nothing(rest) and are_writings(form, ALL, certificate)


def shows_odd(form, rest, certificate):
    """Whether these are writings that show that the form gives all odd numbers."""
    return is_nothing(rest) and are_writings(form, ODD, certificate)


def shows_primes(form, rest, certificate):
    """Whether these are writings that show that the form gives all primes."""
    return is_nothing(rest) and are_writings(form, PRIMES, certificate)


def shows_not_all(form, rest, certificate):
    """Whether the form misses the number, and these are writings of all before it."""
    if not is_lone_number(rest) or not are_writings(form, tuple(range(1, rest[0])), certificate):
        return False
    return not gives(form, rest[0])


def shows_barred(form, rest, certificate):
    """Whether the modulus, and no lesser one, bars the number."""
    if len(rest) != 2 or type(rest[0]) is not int or not is_number(rest[1]) or not is_nothing(certificate):
        return False
    return rest[0] == bar(form, rest[1])


def shows_alike(form, rest, certificate):
    """Whether this is a turning of the form into the other one."""
    other = other_form(rest)
    if other is None:
        return False
    try:
        return form.turned(certificate) == other
    except (InvalidTurning, TooGreat):
        return False


def shows_unlike(form, rest, certificate):
    """Whether the forms are not alike."""
    other = other_form(rest)
    return other is not None and is_nothing(certificate) and not alike(form, other)


def other_form(rest):
    """The form whose text alone is this rest of a claim, None if there is none."""
    return form_of(rest[0]) if len(rest) == 1 else None


CHECKS = {
    "gives": shows_given,
    "misses": shows_missed,
    "all": shows_all,
    "odd": shows_odd,
    "primes": shows_primes,
    "not all": shows_not_all,
    "barred": shows_barred,
    "alike": shows_alike,
    "unlike": shows_unlike,
}
