"""The checker of largest papers."""

from pairtally.basics import has_parts
from pairtally.errors import NoPaper
from pairtally.webs import are_places, are_ties, parts, shared_place, without_places


def lets_largest(web, thing):
    """The size of the largest pairing where the thing, any, is a LARGEST PAPER of the web; else NoPaper."""
    if not is_largest_shape(web, thing):
        raise NoPaper("shape", -1)
    pairing, places = thing
    shared = shared_place(pairing)
    if shared is not None:
        raise NoPaper("shares", shared)
    odd = odd_parts(web, places)
    if 2 * len(pairing) != web[0] + len(places) - odd:
        raise NoPaper("odd", odd)
    return len(pairing)


def is_largest_shape(web, thing):
    """Whether the thing, any, is a tuple of two rising tuples, of ties and of places of the web."""
    if not has_parts(thing, 2):
        return False
    return are_ties(web, thing[0]) and are_places(web, thing[1])


def odd_parts(web, places):
    """How many parts of the web without the places have an odd number of places."""
    return sum(len(part) & 1 for part in parts(without_places(web, places)))
