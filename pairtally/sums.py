"""Sums of the powers of roots, and polys by their sums."""

from pairtally.basics import added
from pairtally.walks import closed_walks


def sums_of(poly, most):
    """The SUMS, from the 0-th to the most-th, of a poly whose last number is 1."""
    told = [len(poly) - 1]
    for k in range(1, most + 1):
        taken = sum(number_down(poly, i) * told[k - i] for i in range(1, k))
        told.append(-k * number_down(poly, k) - taken)
    return tuple(told)


def number_down(poly, i):
    """The poly's number that stands i below its last one, 0 where there is none."""
    return poly[-1 - i] if i < len(poly) else 0


def poly_of_sums(sums):
    """The POLY with these sums and the last number 1, or None where it is not of whole numbers."""
    downward = [1]
    for k in range(1, len(sums)):
        total = sums[k] + sum(downward[i] * sums[k - i] for i in range(1, k))
        if total % k != 0:
            return None
        downward.append(-total // k)
    return tuple(downward[::-1])


def whole_of(web):
    """The WHOLE of the web."""
    many = web[0]
    totals = [0] * (many + 1)
    for place in range(many):
        totals = added(totals, closed_walks(web, place, many))
    return poly_of_sums(tuple(totals))
