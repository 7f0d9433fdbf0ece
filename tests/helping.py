"""What several tests share: asking for errors, and forms that were turned far away."""

import unittest

from fifteenforms.errors import TooGreat


class Refusing(unittest.TestCase):
    def refused(self, error, attribute, told, call, *passed, **named):
        """Asks that the call raises just this class of errors, and keeps what is told: the same value, if it can be."""
        with self.subTest(call=call, passed=passed, named=named):
            with self.assertRaises(error) as caught:
                call(*passed, **named)
            self.assertIs(type(caught.exception), error)
            found = getattr(caught.exception, attribute)
            if type(told) is int:
                self.assertEqual((found, type(found)), (told, int))
            else:
                self.assertIs(found, told)

    def refused_bare(self, error, call, *passed, **named):
        """The same for a class of errors without attributes."""
        with self.subTest(call=call, passed=passed, named=named):
            with self.assertRaises(error) as caught:
                call(*passed, **named)
            self.assertIs(type(caught.exception), error)


def unit(places):
    """The rows of the turning that leaves all as it is."""
    return tuple(tuple(1 if i == j else 0 for j in range(places)) for i in range(places))


def far_form(chance, form, steps):
    """The form after so many steps that make its entries greater, as far as they may be."""
    for _ in range(steps):
        rows = [list(row) for row in unit(form.places)]
        one, two = chance.sample(range(form.places), 2)
        rows[one][two] = chance.choice((-2, -1, 1, 2))
        try:
            other = form.turned(tuple(tuple(row) for row in rows))
        except TooGreat:
            continue
        if sum(other.diagonal) >= sum(form.diagonal):
            form = other
    return form
