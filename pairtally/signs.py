"""The maker of sign papers, and real roots counted and found by them."""

from pairtally.factors import content, long_division, powers_of
from pairtally.polys import derived, lowest, sign_at
from pairtally.signchecker import changes


def sign_paper(poly):
    """A SIGN PAPER of the poly of degree 1 or more; of one of degree 0 it alone, without rows."""
    polys = [poly]
    rows = []
    following = derived(poly)
    while following:
        polys.append(following)
        row, following = sign_step(polys[-2], polys[-1])
        rows.append(row)
    return tuple(polys), tuple(rows)


def sign_step(one, other):
    """((a, b, q), third): a times the one and b times the third are q times the other; third is of less degree."""
    a, q, rest = long_division(one, other)
    b = max(1, content(rest))
    return (a, b, q), tuple(-number // b for number in rest)


def outside(poly):
    """A whole number n: all real roots of the poly, not nought, are above -n and below n."""
    return max(abs(number) for number in poly) // abs(poly[-1]) + 2


def sign_chains(poly):
    """A list of (polys, power): the polys of a sign paper of each factor of the poly, and its power."""
    return [(sign_paper(factor)[0], power) for factor, power in powers_of(poly)]


def below_by(chains, fraction):
    """How many real roots, with powers, of the poly with these sign chains are below the fraction."""
    return sum(power * roots_below(polys, fraction) for polys, power in chains)


def roots_below(polys, fraction):
    """How many real roots the first of the polys of a sign paper, with no root twice, has below the fraction."""
    far = (-outside(polys[0]), 1)
    # The changes fall by one from below a root to the root itself, so one at the fraction is counted.
    here = 1 if sign_at(polys[0], fraction) == 0 else 0
    return changes(polys, far) - changes(polys, fraction) - here


def below(poly, fraction):
    """How many real roots of the poly, not nought, with powers, are below the fraction."""
    return below_by(sign_chains(poly), fraction)


def reals(poly):
    """How many real roots the poly, not nought, has, with powers."""
    return below(poly, (outside(poly), 1))


def root_at(poly, number, width):
    """A STRETCH narrower than the width, at most number real roots below its low, more than number below its high."""
    chains = sign_chains(poly)
    low, high = (-outside(poly), 1), (outside(poly), 1)
    while not is_narrower(low, high, width):
        middle = point_between(low, high, 2)
        if below_by(chains, middle) <= number:
            low = middle
        else:
            high = middle
    return low, high


def is_narrower(low, high, width):
    """Whether high less low is below the width."""
    wide = high[0] * low[1] - low[0] * high[1]
    return wide * width[1] < width[0] * low[1] * high[1]


def point_between(low, high, n):
    """The fraction one n-th of the way from low to high."""
    return lowest((n - 1) * low[0] * high[1] + high[0] * low[1], n * low[1] * high[1])
