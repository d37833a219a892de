"""The pairings of a web of one size, and the row of a web."""

from pairtally.errors import TooMany
from pairtally.rows import row_on, row_product, row_sum
from pairtally.webs import even_weights, parts, reached, tied_places

MOST_TOLD = 5000
MOST_PLACES = 16
MOST_RINGLESS = 400


def pairings(web, size):
    """The list of all pairings of the size, rising; TooMany where they are more than 5,000."""
    ties = web[1]
    found = []
    taken = []
    used = {}
    at = 0
    # By hand and not by recursion: a size may be some thousand ties.
    while at is not None:
        if len(taken) == size:
            found.append(tuple([ties[k] for k in taken]))
            if len(found) > MOST_TOLD:
                raise TooMany("more than 5,000 pairings of this size")
            at = put_back(ties, taken, used)
            continue
        at = next_free(ties, at, used, size - len(taken))
        if at is None:
            at = put_back(ties, taken, used)
        else:
            taken.append(at)
            used.update({place: True for place in ties[at]})
            at += 1
    return found


def put_back(ties, taken, used):
    """Puts the tie that was taken last back; the number behind it, or None where none was taken."""
    if not taken:
        return None
    last = taken.pop()
    for place in ties[last]:
        del used[place]
    return last + 1


def next_free(ties, at, used, lacking):
    """The number, from at on, of the first tie on unused places, or None where too few can be had."""
    if lacking > 1 and not may_hold(ties, at, used, lacking):
        return None
    while at < len(ties) and not is_free(ties[at], used):
        at += 1
    return at if at < len(ties) else None


def is_free(tie, used):
    """Whether both places of the tie are unused."""
    return tie[0] not in used and tie[1] not in used


def may_hold(ties, at, used, size):
    """False only where the unused ties from at on can't hold a pairing of the size."""
    free = [tie for tie in ties[at:] if is_free(tie, used)]
    # The ties of a pairing have unlike lesser places, and unlike greater ones.
    lesser = {tie[0]: True for tie in free}
    greater = {tie[1]: True for tie in free}
    return size <= min(len(lesser), len(greater), len({**lesser, **greater}) // 2)


def row_of(web):
    """The row of a web that is small enough or has no rings; else TooMany."""
    many = web[0]
    if many <= MOST_PLACES:
        return row_by_places(tied_places(web), tuple(range(many)), {})
    if many <= MOST_RINGLESS and is_ringless(web):
        return ringless_row(web, even_weights(web))
    raise TooMany("the web has too many places for its row")


def row_by_places(tied, places, known):
    """The row of the web of the places alone; known keeps the rows that were made."""
    if not places:
        return (1,)
    if places in known:
        return known[places]
    first, rest = places[0], places[1:]
    row = row_by_places(tied, rest, known)
    for other in tied[first]:
        if other in rest:
            left = tuple(place for place in rest if place != other)
            row = row_sum(row, row_on(row_by_places(tied, left, known)))
    known[places] = row
    return row


def is_ringless(web):
    """Whether the web has no rings."""
    return len(web[1]) == web[0] - len(parts(web))


def ringless_row(web, weights):
    """The row, by the WEIGHTS, of a web without rings: the product of its parts' rows."""
    tied = tied_places(web)
    heavy = dict(zip(web[1], weights))
    row = (1,)
    for part in parts(web):
        row = row_product(row, tree_row(tied, heavy, part[0]))
    return row


def tree_row(tied, heavy, root):
    """The row, by each tie's weight in heavy, of the ringless part that root lies in."""
    above = reached(tied, root)
    # Of each place, with what hangs below it: all pairings, and those that leave it bare.
    whole = {place: (1,) for place in above}
    bare = {place: (1,) for place in above}
    # Places were found from above to below, so backwards each is done ahead of the one above it.
    for place in list(above)[::-1]:
        if place != root:
            up = above[place]
            tied_up = (0, heavy[(min(up, place), max(up, place))])
            both_bare = row_product(bare[up], bare[place])
            whole[up] = row_sum(row_product(whole[up], whole[place]), row_product(tied_up, both_bare))
            bare[up] = row_product(bare[up], whole[place])
    return whole[root]
