"""The checker of root papers."""

from pairtally.basics import has_parts, is_whole
from pairtally.errors import NoPaper
from pairtally.polys import is_fraction, is_poly, poly_product, sign_at, times


def lets_roots(poly, thing):
    """True where the thing, any, is a ROOT PAPER of the poly, not nought; else NoPaper."""
    look_at_shape(poly, thing)
    if not makes_up(poly, thing):
        raise NoPaper("product", -1)
    for k, (factor, power, stretches) in enumerate(thing):
        if not are_in_order(stretches):
            raise NoPaper("order", k)
        if not all(changes_sign(factor, stretch) for stretch in stretches):
            raise NoPaper("signs", k)
    look_apart(thing)
    return True


def look_at_shape(poly, thing):
    """NoPaper where the thing is no tuple of entries by kind."""
    if not isinstance(thing, tuple):
        raise NoPaper("shape", -1)
    for k, part in enumerate(thing):
        if not is_entry(poly, part):
            raise NoPaper("shape", k)


def is_entry(poly, thing):
    """Whether the thing, any, is an entry by kind, with as many stretches as its factor's degree."""
    if not has_parts(thing, 3):
        return False
    factor, power, stretches = thing
    if not is_poly(factor) or len(factor) < 2 or not is_whole(power) or not 1 <= power < len(poly):
        return False
    if not isinstance(stretches, tuple) or len(stretches) != len(factor) - 1:
        return False
    return all(is_stretch(stretch) for stretch in stretches)


def is_stretch(thing):
    """Whether the thing, any, is a STRETCH."""
    if not has_parts(thing, 2):
        return False
    low, high = thing
    return is_fraction(low) and is_fraction(high) and not at_most(high, low)


def at_most(one, other):
    """Whether the one fraction is at most the other."""
    return one[0] * other[1] <= other[0] * one[1]


def makes_up(poly, entries):
    """Whether the entries' factors, by their powers, are the poly but for whole numbers."""
    degree = sum(power * (len(factor) - 1) for factor, power, stretches in entries)
    # Asked first, so that no product is made that is far greater than the poly.
    if degree != len(poly) - 1:
        return False
    product = (1,)
    for factor, power, stretches in entries:
        for again in range(power):
            product = poly_product(product, factor)
    return times(product, poly[-1]) == times(poly, product[-1])


def are_in_order(stretches):
    """Whether each stretch's high is at most the low behind it."""
    return all(at_most(stretches[k - 1][1], stretches[k][0]) for k in range(1, len(stretches)))


def changes_sign(factor, stretch):
    """Whether the factor's worths at the ends of the stretch are one above and one below 0."""
    low, high = stretch
    return sign_at(factor, low) * sign_at(factor, high) < 0


def look_apart(entries):
    """NoPaper where a stretch of an entry meets one of an entry ahead."""
    ahead = []
    for k, (factor, power, stretches) in enumerate(entries):
        if any(do_meet(one, other) for one in ahead for other in stretches):
            raise NoPaper("apart", k)
        ahead.extend(stretches)


def do_meet(one, other):
    """Whether some point lies in both stretches."""
    return not at_most(one[1], other[0]) and not at_most(other[1], one[0])
