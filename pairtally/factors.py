"""Polys divided: plain ones, common ones, quotients and powers."""

from pairtally.basics import divisor
from pairtally.polys import derived, poly_sum, times


def content(poly):
    """The greatest whole number that divides all numbers of the poly; of nought 0."""
    shared = 0
    for number in poly:
        shared = divisor(shared, number)
    return shared


def plain(poly):
    """The poly, not nought, made PLAIN."""
    by = content(poly) if poly[-1] > 0 else -content(poly)
    return tuple(number // by for number in poly)


def raised(poly, by):
    """The poly times x to the power by."""
    return (0,) * by + poly


def long_division(one, other):
    """(a, q, rest): a, from 1 on, times the one is q times the other, not nought, and the rest of less degree."""
    a = 1
    numbers = [0] * max(0, len(one) - len(other) + 1)
    rest = one
    while len(rest) >= len(other):
        # The rest is made greater only as far as the other's last number does not divide its own.
        more = abs(other[-1]) // divisor(rest[-1], other[-1])
        a *= more
        numbers = [more * number for number in numbers]
        by = len(rest) - len(other)
        numbers[by] = more * rest[-1] // other[-1]
        rest = poly_sum(times(rest, more), raised(times(other, -numbers[by]), by))
    return a, tuple(numbers), rest


def common(one, other):
    """The COMMON poly of two polys, not both nought."""
    while other:
        a, q, rest = long_division(one, other)
        # Made plain, so that the numbers do not grow from division to division.
        one, other = other, plain(rest) if rest else ()
    return plain(one)


def quotient(one, other):
    """The poly that times the one, not nought, is the other, or None."""
    a, q, rest = long_division(other, one)
    # Where a is above 1, some number of what q over a is was no whole one.
    return q if a == 1 and not rest else None


def powers_of(poly):
    """The POWERS of the poly, not nought: a list of (factor, power)."""
    whole = plain(poly)
    # More holds each factor once less often than it stands in the poly, left each just once.
    more = common(whole, derived(whole))
    left = quotient(more, whole)
    told = []
    power = 1
    while len(left) > 1:
        again = common(left, more)
        factor = quotient(again, left)
        if len(factor) > 1:
            told.append((factor, power))
        left = again
        more = quotient(again, more)
        power += 1
    return told
