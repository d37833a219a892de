"""The maker of ring papers, and the row of a web without rings."""

from pairtally.pairings import is_ringless, ringless_row
from pairtally.webs import even_weights, reached, tied_places


def ring_paper(web):
    """A RING PAPER of the web."""
    above = found_from(web)
    for i, j in web[1]:
        # Both were found by other ties than theirs, so it closes a ring with these.
        if above[i] != j and above[j] != i:
            return "ring", ring_by(above, i, j)
    # Backwards, each place stands ahead of the one that it was found from, and behind those found from it.
    return "ringless", tuple(list(above)[::-1])


def found_from(web):
    """A dict: each place of the web, and the place it was found from, or None, in the order found."""
    tied = tied_places(web)
    above = {}
    for place in range(web[0]):
        if place not in above:
            above.update(reached(tied, place))
    return above


def ring_by(above, i, j):
    """The ring of a tie (i, j) with the ties by which its places were found."""
    one, other = way_up(above, i), way_up(above, j)
    while len(one) > 1 and len(other) > 1 and one[-2] == other[-2]:
        one, other = one[:-1], other[:-1]
    # The last place of both is the one where they meet.
    return tuple(one + other[:-1][::-1])


def way_up(above, place):
    """The list of places from the place on, each followed by the one that it was found from."""
    way = []
    while place is not None:
        way.append(place)
        place = above[place]
    return way


def forest_row(web):
    """The row of a web without rings; None where there is a ring."""
    return ringless_row(web, even_weights(web)) if is_ringless(web) else None
