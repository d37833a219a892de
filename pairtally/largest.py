"""The maker of largest papers."""

from pairtally.errors import TooMany
from pairtally.largestchecker import odd_parts
from pairtally.webs import tied_places

MOST_PLACES = 12


def largest_told(web):
    """A LARGEST PAPER of the web; TooMany of a web of more than twelve places."""
    many = web[0]
    if many > MOST_PLACES:
        raise TooMany("the web has too many places for a largest paper")
    pairing = largest_pairing(tied_places(web), tuple(range(many)), {})
    return pairing, places_for(web, len(pairing))


def largest_pairing(tied, places, known):
    """A largest pairing of the ties between the places; known keeps those that were made."""
    if not places:
        return ()
    if places in known:
        return known[places]
    first, rest = places[0], places[1:]
    best = largest_pairing(tied, rest, known)
    for other in tied[first]:
        if other in rest:
            left = tuple(place for place in rest if place != other)
            tried = ((first, other), *largest_pairing(tied, left, known))
            best = max(best, tried, key=len)
    known[places] = best
    return best


def places_for(web, size):
    """Places that show that no pairing of the web is larger than the size."""
    choices = [()]
    for place in range(web[0]):
        choices = choices + [(*chosen, place) for chosen in choices]
    # Where the size is that of a largest pairing, some choice always fits (Tutte and Berge).
    fitting = [chosen for chosen in choices if 2 * size == web[0] + len(chosen) - odd_parts(web, chosen)]
    return fitting[0]
