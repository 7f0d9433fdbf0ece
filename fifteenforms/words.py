"""Integers in decimal digits."""


def whole(word):
    """The integer with just these digits, None if there is none."""
    try:
        found = int(word)
    except ValueError:
        return None
    # Python reads more than that, such as a plus sign, needless zeros and spaces, but it writes no integer so.
    return found if str(found) == word else None
