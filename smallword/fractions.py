"""Exact fractions: tuples (top, bottom) in lowest terms, the bottom from 1 on."""

from smallword.errors import NoShare

ZERO = (0, 1)


def common_divisor(one, other):
    """The greatest whole number that divides both, which are not both 0."""
    while other != 0:
        one, other = other, one % other
    return abs(one)


def fraction(top, bottom):
    """The fraction of this worth in lowest terms; NoShare of a bottom of 0."""
    if bottom == 0:
        raise NoShare("a fraction has no bottom of 0")
    divisor = common_divisor(top, bottom)
    if bottom < 0:
        divisor = -divisor
    return (top // divisor, bottom // divisor)


def plus(one, other):
    # What is made of both may be long, so divisors are sought among shorter numbers:
    # the new top can share with the new bottom only what both bottoms share.
    shared = common_divisor(one[1], other[1])
    top = one[0] * (other[1] // shared) + other[0] * (one[1] // shared)
    divisor = common_divisor(top, shared)
    return (top // divisor, one[1] // shared * (other[1] // divisor))


def minus(one, other):
    return plus(one, contrary(other))


def times(one, other):
    # Each is in lowest terms, so a top can share with the other's bottom alone.
    first = common_divisor(one[0], other[1])
    second = common_divisor(other[0], one[1])
    return (one[0] // first * (other[0] // second), one[1] // second * (other[1] // first))


def parted(one, other):
    """The first divided by the second; NoShare where that is 0."""
    if other == ZERO:
        raise NoShare("nothing is parted by 0")
    return times(one, fraction(other[1], other[0]))


def contrary(one):
    return (-one[0], one[1])


def is_less(one, other):
    return one[0] * other[1] < other[0] * one[1]


def sign_of(one):
    """-1, 0 or 1."""
    if one[0] < 0:
        return -1
    return 1 if one[0] > 0 else 0
