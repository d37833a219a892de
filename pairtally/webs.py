"""Webs, their pairings by kind, webs made of them, and their parts."""

from pairtally.basics import are_whole, has_parts, is_rising, is_whole


def is_web(thing):
    """Whether the thing, any, is a WEB."""
    if not has_parts(thing, 2):
        return False
    many, ties = thing
    if not is_whole(many) or many < 0 or not isinstance(ties, tuple):
        return False
    return all(is_pair(tie, many) for tie in ties) and is_rising(ties)


def is_pair(thing, many):
    """Whether the thing, any, is a tuple of two places below many, the lesser first."""
    return are_whole(thing) and len(thing) == 2 and 0 <= thing[0] < thing[1] < many


def is_place(web, thing):
    """Whether the thing, any, is a place of the web."""
    return is_whole(thing) and 0 <= thing < web[0]


def is_tie(web, thing):
    """Whether the thing, any, is a tie of the web."""
    return are_whole(thing) and thing in web[1]


def is_numbering(web, thing):
    """Whether the thing, any, is a tuple with the number of each place of the web once."""
    # The lengths are compared first: many may be far too great to go through.
    return are_whole(thing) and len(thing) == web[0] and sorted(thing) == list(range(len(thing)))


def are_places(web, thing):
    """Whether the thing, any, is a rising tuple of places of the web."""
    return are_whole(thing) and is_rising(thing) and all(is_place(web, place) for place in thing)


def are_ties(web, thing):
    """Whether the thing, any, is a rising tuple of ties of the web."""
    if not isinstance(thing, tuple):
        return False
    known = {tie: True for tie in web[1]}
    # Only tuples of whole numbers are looked up: (True, 2) would be found as (1, 2).
    return all(are_whole(tie) and tie in known for tie in thing) and is_rising(thing)


def shared_place(ties):
    """The least place on two of the ties, or None."""
    seen = {}
    twice = []
    for tie in ties:
        for place in tie:
            if place in seen:
                twice.append(place)
            seen[place] = True
    return min(twice, default=None)


def is_pairing(web, thing):
    """Whether the thing, any, is a PAIRING of the web."""
    return are_ties(web, thing) and shared_place(thing) is None


def neighbours(web, place):
    """The places tied to the place, rising."""
    return tuple(sorted([i + j - place for i, j in web[1] if place in (i, j)]))


def without_places(web, places):
    """The web with the places left out, the others numbered anew."""
    gone = {place: True for place in places}
    return web_on(web, tuple(place for place in range(web[0]) if place not in gone))


def web_on(web, places):
    """The web of the places alone, numbered anew in their order."""
    numbers = {place: k for k, place in enumerate(places)}
    kept = [(i, j) for i, j in web[1] if i in numbers and j in numbers]
    return len(places), tuple((numbers[i], numbers[j]) for i, j in kept)


def without_tie(web, tie):
    """The web without the tie, its places as they are."""
    return web[0], tuple(kept for kept in web[1] if kept != tie)


def renumbered(web, numbers):
    """The web whose place p is called by the p-th of the numbers."""
    called = [(numbers[i], numbers[j]) for i, j in web[1]]
    return web[0], tuple(sorted([(min(pair), max(pair)) for pair in called]))


def even_weights(web):
    """The WEIGHTS of the web that are all 1."""
    return (1,) * len(web[1])


def tied_places(web):
    """The list with, at each place, the list of its neighbours, rising."""
    tied = [[] for place in range(web[0])]
    for i, j in web[1]:
        tied[i].append(j)
        tied[j].append(i)
    return tied


def reached(tied, start, barred=()):
    """A dict, in the order found: each place that ways join to start, by no barred one, and what it was found from."""
    closed = {place: True for place in barred}
    found = {start: None}
    waiting = [start]
    while waiting:
        place = waiting.pop()
        for other in tied[place]:
            if other not in found and other not in closed:
                found[other] = place
                waiting.append(other)
    return found


def parts(web):
    """The PARTS of the web, by their least places, each rising."""
    tied = tied_places(web)
    seen = {}
    told = []
    for place in range(web[0]):
        if place not in seen:
            part = sorted(reached(tied, place))
            seen.update({other: True for other in part})
            told.append(tuple(part))
    return tuple(told)
