"""Sums of parts, told by the bits of an integer: bit n is 1 if n is such a sum."""

NOUGHT_ALONE = 1


def with_parts(sums, parts, most):
    """The sums up to `most` of one of these sums and one of the parts, which are not above it."""
    found = 0
    for part in parts:
        found |= sums << part
    return found & all_up_to(most)


def all_up_to(most):
    """The bits of all numbers from 0 to this one."""
    return (1 << (most + 1)) - 1


def is_sum(number, sums):
    """Whether the number is one of the sums."""
    return (sums >> number) & 1 == 1
