"""Polys divided: plain ones, common ones, quotients and powers."""

from pairtally.basics import divisor
from pairtally.polys import derived, poly_sum, times


def plain(poly):
    """The poly, not nought, made PLAIN."""
    shared = 0
    for number in poly:
        shared = divisor(shared, number)
    if poly[-1] < 0:
        shared = -shared
    return tuple(number // shared for number in poly)


def raised(poly, by):
    """The poly times x to the power by."""
    return (0,) * by + poly


def common(one, other):
    """The COMMON poly of two polys, not both nought."""
    while other:
        one, other = other, remainder(one, other)
    return plain(one)


def remainder(one, other):
    """What is left, up to a whole number, of the one divided by the other, which is not nought."""
    left = one
    while len(left) >= len(other):
        taken = raised(times(other, -left[-1]), len(left) - len(other))
        left = poly_sum(times(left, other[-1]), taken)
    # Made plain, so that the numbers do not grow from division to division.
    return plain(left) if left else ()


def quotient(one, other):
    """The poly that times the one, not nought, is the other, or None."""
    left = other
    numbers = [0] * max(0, len(other) - len(one) + 1)
    while len(left) >= len(one):
        if left[-1] % one[-1] != 0:
            return None
        by = len(left) - len(one)
        numbers[by] = left[-1] // one[-1]
        left = poly_sum(left, raised(times(one, -numbers[by]), by))
    return None if left else tuple(numbers)


def powers_of(poly):
    """The POWERS of the poly, not nought: a list of (factor, power)."""
    whole = plain(poly)
    # More holds each factor once less often than it stands in the poly, left each just once.
    more = common(whole, derived(whole))
    left = quotient(more, whole)
    told = []
    power = 1
    while len(left) > 1:
        again = common(left, more)
        factor = quotient(again, left)
        if len(factor) > 1:
            told.append((factor, power))
        left = again
        more = quotient(again, more)
        power += 1
    return told
