"""The maker of quotient papers."""

from pairtally.errors import TooMany
from pairtally.quotientchecker import asked_pairs
from pairtally.signed import signed_of
from pairtally.webs import reached, tied_places, web_on

MOST_PAIRS = 300


def quotient_paper(web, place):
    """A QUOTIENT PAPER of the web and the place; TooMany where more than 300 pairs are due."""
    tied = tied_places(web)
    # Each pair was found behind the one that asks for it, so backwards it stands ahead.
    return tuple(made_entry(web, tied, gone, here) for gone, here in reversed(due_pairs(web, place)))


def due_pairs(web, place):
    """The list of the pairs (gone, here) that are due, the pair ((), place) first; TooMany of more than 300."""
    pairs = [((), place)]
    seen = {((), place): True}
    at = 0
    while at < len(pairs):
        gone, here = pairs[at]
        for pair in asked_pairs(web, gone, here):
            if pair not in seen:
                seen[pair] = True
                pairs.append(pair)
        if len(pairs) > MOST_PAIRS:
            raise TooMany("more than 300 pairs are due")
        at += 1
    return pairs


def made_entry(web, tied, gone, here):
    """The entry with this gone and here, its polys those of here's part of the web without gone alone."""
    part = sorted(reached(tied, here, gone))
    top = signed_of(web_on(web, [other for other in part if other != here]))
    return gone, here, top, signed_of(web_on(web, part))
