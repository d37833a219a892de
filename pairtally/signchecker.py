"""The checker of sign papers, and the changes of signs along polys."""

from pairtally.basics import has_parts, is_whole
from pairtally.errors import NoPaper
from pairtally.polys import derived, is_poly, poly_product, poly_sum, sign_at, times


def lets_signs(poly, thing):
    """True where the thing, any, is a SIGN PAPER of the poly of degree 1 or more; else NoPaper."""
    if not is_sign_shape(thing):
        raise NoPaper("shape", -1)
    polys, rows = thing
    if polys[0] != poly:
        raise NoPaper("first", 0)
    if polys[1] != derived(poly):
        raise NoPaper("first", 1)
    for k, row in enumerate(rows):
        last = polys[k + 2] if k + 2 < len(polys) else ()
        if not is_right_row(row, polys[k], polys[k + 1], last):
            raise NoPaper("row", k)
    return True


def is_sign_shape(thing):
    """Whether the thing, any, is two polys or more, none nought, and one row fewer, by kind."""
    if not has_parts(thing, 2):
        return False
    polys, rows = thing
    if not isinstance(polys, tuple) or not isinstance(rows, tuple):
        return False
    if len(polys) < 2 or len(rows) != len(polys) - 1:
        return False
    return all(is_poly(part) and part != () for part in polys) and all(is_sign_row(part) for part in rows)


def is_sign_row(thing):
    """Whether the thing, any, is a triple (a, b, q) by kind."""
    if not has_parts(thing, 3):
        return False
    a, b, q = thing
    return is_whole(a) and a >= 1 and is_whole(b) and b >= 1 and is_poly(q)


def is_right_row(row, first, second, third):
    """Whether, by the row (a, b, q), a times the first and b times the third are q times the second."""
    a, b, q = row
    # Asked first, so that no product is made that is far greater than the polys.
    if len(q) > 0 and len(q) + len(second) - 1 > max(len(first), len(third)):
        return False
    return poly_sum(times(first, a), times(third, b)) == poly_product(q, second)


def changes(polys, fraction):
    """How often, noughts left out, a worth above 0 at the fraction stands next to one below."""
    signs = [sign for sign in [sign_at(poly, fraction) for poly in polys] if sign != 0]
    return sum(1 for k in range(1, len(signs)) if signs[k - 1] != signs[k])
