"""The checker of ring papers."""

from pairtally.basics import has_parts
from pairtally.errors import NoPaper
from pairtally.webs import is_place, tied_places

LEAST_RING = 3


def lets_rings(web, thing):
    """The first text of the thing, any, where it is a RING PAPER of the web; else NoPaper."""
    if not is_ring_shape(thing):
        raise NoPaper("shape", -1)
    word, places = thing
    least = web[0] if word == "ringless" else LEAST_RING
    look_at_places(web, places, least)
    wrong = first_tied_twice(web, places) if word == "ringless" else first_untied(web, places)
    if wrong is not None:
        raise NoPaper("tie", wrong)
    return word


def is_ring_shape(thing):
    """Whether the thing, any, is one of the two words with a tuple."""
    if not has_parts(thing, 2):
        return False
    return thing[0] in ("ringless", "ring") and isinstance(thing[1], tuple)


def look_at_places(web, places, least):
    """NoPaper where the places are not unlike places of the web, or fewer than least."""
    seen = {}
    for k, place in enumerate(places):
        if not is_place(web, place) or place in seen:
            raise NoPaper("order", k)
        seen[place] = True
    if len(places) < least:
        raise NoPaper("order", len(places))


def first_tied_twice(web, order):
    """The first k whose place is tied to two or more of those behind it, or None."""
    tied = tied_places(web)
    at = {place: k for k, place in enumerate(order)}
    for k, place in enumerate(order):
        if sum(1 for other in tied[place] if at[other] > k) > 1:
            return k
    return None


def first_untied(web, places):
    """The first k whose place is not tied to the one behind it, of the last to the first, or None."""
    known = {tie: True for tie in web[1]}
    for k, place in enumerate(places):
        other = places[k + 1] if k + 1 < len(places) else places[0]
        if (min(place, other), max(place, other)) not in known:
            return k
    return None
