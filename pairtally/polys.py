"""Polys and fractions."""

from pairtally.basics import added, are_whole, divisor, multiplied


def is_poly(thing):
    """Whether the thing, any, is a POLY."""
    return are_whole(thing) and (len(thing) == 0 or thing[-1] != 0)


def is_fraction(thing):
    """Whether the thing, any, is a FRACTION."""
    return are_whole(thing) and len(thing) == 2 and thing[1] >= 1 and divisor(thing[0], thing[1]) == 1


def lowest(top, bottom):
    """The FRACTION that is top over bottom, bottom above 0."""
    both = divisor(top, bottom)
    return top // both, bottom // both


def trimmed(numbers):
    """The POLY with these numbers: noughts at the end fall away."""
    end = len(numbers)
    while end > 0 and numbers[end - 1] == 0:
        end -= 1
    return tuple(numbers[:end])


def poly_sum(one, other):
    """The sum of two polys."""
    return trimmed(added(one, other))


def poly_product(one, other):
    """The product of two polys."""
    return tuple(multiplied(one, other))


def times(poly, number):
    """The poly times a whole number."""
    return trimmed([number * part for part in poly])


def derived(poly):
    """The poly derived."""
    return tuple(k * poly[k] for k in range(1, len(poly)))


def scaled_worth(poly, fraction):
    """(total, scale), scale above 0: the poly's worth at the fraction is total over scale, times its bottom."""
    top, bottom = fraction
    total = 0
    scale = 1
    for number in reversed(poly):
        total = total * top + number * scale
        scale *= bottom
    return total, scale


def worth(poly, fraction):
    """The poly's worth at the fraction, a FRACTION."""
    total, scale = scaled_worth(poly, fraction)
    return lowest(total * fraction[1], scale)


def sign_at(poly, fraction):
    """1, 0 or -1, as the poly's worth at the fraction is above 0, 0 or below 0."""
    total = scaled_worth(poly, fraction)[0]
    if total == 0:
        return 0
    return 1 if total > 0 else -1
