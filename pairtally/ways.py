"""The ways of a web from a place, and their tree."""

from pairtally.errors import TooMany
from pairtally.webs import tied_places

MOST_WAYS = 400


def ways_from(web, place):
    """The list of all ways from the place, by how many places they have, then sorted; TooMany of more than 400."""
    tied = tied_places(web)
    told = []
    latest = [(place,)]
    while latest:
        told.extend(latest)
        # Sorted ways, each taken further by rising places, are sorted again.
        latest = longer_ways(tied, latest, MOST_WAYS - len(told))
    return told


def longer_ways(tied, ways, most):
    """The list of the ways that go on from the ways by one place; TooMany of more than most."""
    told = []
    for way in ways:
        told.extend([(*way, other) for other in tied[way[-1]] if other not in way])
        if len(told) > most:
            raise TooMany("more than 400 ways from the place")
    return told


def ways_tree(web, place):
    """The TREE OF WAYS from the place; TooMany where there are more than 400 ways."""
    ways = ways_from(web, place)
    numbers = {way: k for k, way in enumerate(ways)}
    return len(ways), tuple(sorted([(numbers[way[:-1]], numbers[way]) for way in ways[1:]]))
