"""Closed walks of a web, and those that fold."""

from pairtally.pairings import row_of
from pairtally.signed import signed_number
from pairtally.ways import ways_tree
from pairtally.webs import tied_places, without_places


def closed_walks(web, place, most):
    """How many closed walks of each length from 0 to most begin at the place: a tuple."""
    tied = tied_places(web)
    # At each place, how many walks of the length go there from the place.
    counts = [1 if here == place else 0 for here in range(web[0])]
    told = [1]
    for length in range(most):
        counts = [sum([counts[other] for other in others]) for others in tied]
        told.append(counts[place])
    return tuple(told)


def folds(web, walk):
    """Whether the walk of the web FOLDS."""
    way = [walk[0]]
    for place in walk[1:]:
        if len(way) > 1 and place == way[-2]:
            way.pop()
        elif place in way:
            return False
        else:
            way.append(place)
    return len(way) == 1


def folding(web, place, most):
    """How many walks of each length from 0 to most begin at the place and fold, by the ways; or TooMany."""
    return closed_walks(ways_tree(web, place), 0, most)


def folding_by_rows(web, place, most):
    """The same by the rows of the web and of the web without the place."""
    upper, lower = row_of(without_places(web, (place,))), row_of(web)
    told = []
    # The quotient's numbers, each by those ahead of it, as in a long division.
    for k in range(most + 1):
        taken = sum(signed_number(i, lower) * told[k - i] for i in range(1, k + 1))
        told.append(signed_number(k, upper) - taken)
    return tuple(told)
