"""The maker of root papers."""

from pairtally.factors import powers_of
from pairtally.polys import poly_product, sign_at
from pairtally.rootchecker import changes_sign
from pairtally.signchecker import changes
from pairtally.signs import is_narrower, outside, point_between, reals, sign_paper


def root_paper(poly, width):
    """A ROOT PAPER of the poly, not nought, its stretches below the width; None where some root is not real."""
    if reals(poly) < len(poly) - 1:
        return None
    powers = powers_of(poly)
    together = (1,)
    for factor, power in powers:
        together = poly_product(together, factor)
    stretches = root_stretches(together, width)
    return tuple((factor, power, stretches_of(factor, stretches)) for factor, power in powers)


def stretches_of(factor, stretches):
    """Those of the stretches that hold a root of the factor."""
    return tuple(stretch for stretch in stretches if changes_sign(factor, stretch))


def root_stretches(poly, width):
    """The list of stretches below the width, rising, one around each real root of a poly that has none twice."""
    polys = sign_paper(poly)[0]
    told = []
    waiting = [((-outside(poly), 1), (outside(poly), 1))]
    while waiting:
        low, high = waiting.pop()
        many = changes(polys, low) - changes(polys, high)
        if many == 1:
            told.append(narrowed(poly, low, high, width))
        elif many > 1:
            point = rootless_point(poly, low, high)
            waiting.extend([(point, high), (low, point)])
    return told


def rootless_point(poly, low, high):
    """A fraction between low and high at which the poly is not 0."""
    n = 2
    while sign_at(poly, point_between(low, high, n)) == 0:
        n += 1
    return point_between(low, high, n)


def narrowed(poly, low, high, width):
    """A stretch below the width around the one root of the poly between low and high."""
    while not is_narrower(low, high, width):
        point = rootless_point(poly, low, high)
        if changes_sign(poly, (low, point)):
            high = point
        else:
            low = point
    return low, high
