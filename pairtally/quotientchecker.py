"""The checker of quotient papers."""

from pairtally.basics import has_parts
from pairtally.errors import NoPaper
from pairtally.factors import raised
from pairtally.polys import is_poly, poly_product, poly_sum, times
from pairtally.webs import are_places, is_place, neighbours


def lets_quotient(web, place, thing):
    """True where the thing, any, is a QUOTIENT PAPER of the web and the place; else NoPaper."""
    look_at_kinds(web, thing)
    known = {}
    for k, (gone, here, top, bottom) in enumerate(thing):
        asked = asked_pairs(web, gone, here)
        if not all(pair in known for pair in asked):
            raise NoPaper("behind", k)
        if not is_quotient(top, bottom, [known[pair] for pair in asked]):
            raise NoPaper("product", k)
        known[(gone, here)] = (top, bottom)
    if len(thing) == 0 or thing[-1][:2] != ((), place):
        raise NoPaper("last", -1)
    return True


def look_at_kinds(web, thing):
    """NoPaper where the thing is no tuple of entries by kind, no two with gone and here alike."""
    if not isinstance(thing, tuple):
        raise NoPaper("shape", -1)
    seen = {}
    for k, part in enumerate(thing):
        if not is_entry(web, part) or part[:2] in seen:
            raise NoPaper("entry", k)
        seen[part[:2]] = True


def is_entry(web, thing):
    """Whether the thing, any, is an entry by kind."""
    if not has_parts(thing, 4):
        return False
    gone, here, top, bottom = thing
    if not are_places(web, gone) or not is_place(web, here) or here in gone:
        return False
    return is_poly(top) and top != () and is_poly(bottom) and bottom != ()


def asked_pairs(web, gone, here):
    """The list of (gone, here) of the entries that one with this gone and here asks for."""
    further = tuple(sorted((*gone, here)))
    return [(further, other) for other in neighbours(web, here) if other not in gone]


def is_quotient(top, bottom, others):
    """Whether top over bottom is 1 over what x is more than the sum of the others, pairs of a top and a bottom."""
    product = (1,)
    total = ()
    for upper, lower in others:
        # The sum of the others so far is total over product.
        total = poly_sum(poly_product(total, lower), poly_product(upper, product))
        product = poly_product(product, lower)
    left = poly_sum(raised(product, 1), times(total, -1))
    return poly_product(top, left) == poly_product(bottom, product)
