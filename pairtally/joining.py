"""Webs put together, divided and hung, their lines, and their apart sets."""

from pairtally.basics import choose
from pairtally.webs import without_tie


def side_by_side(one, other):
    """The one web and, behind it, the other."""
    many = one[0]
    return many + other[0], one[1] + tuple((i + many, j + many) for i, j in other[1])


def with_more(web, many, ties):
    """The web with so many places in all and the ties put in."""
    return many, tuple(sorted(web[1] + tuple(ties)))


def with_tie(web, i, j):
    """The web with the tie (i, j), which is not there, put in."""
    return with_more(web, web[0], [(i, j)])


def divided(web, tie):
    """The web DIVIDED at the tie."""
    last = web[0]
    return with_more(without_tie(web, tie), last + 1, [(place, last) for place in tie])


def hung(web):
    """The web HUNG: one more place tied to each of its places."""
    many = web[0]
    return with_more(web, 2 * many, [(k, many + k) for k in range(many)])


def joined_web(one, other):
    """Both webs JOINED: side by side, and tied wherever they can be."""
    many = one[0] + other[0]
    across = [(i, j) for i in range(one[0]) for j in range(one[0], many)]
    return with_more(side_by_side(one, other), many, across)


def lines_web(web):
    """The LINES of the web."""
    ties = web[1]
    pairs = [(a, b) for b in range(len(ties)) for a in range(b) if do_share(ties[a], ties[b])]
    return len(ties), tuple(sorted(pairs))


def do_share(one, other):
    """Whether the two ties share a place."""
    return one[0] in other or one[1] in other


def hung_row(many, row):
    """The row of the web HUNG, by its number of places and its row."""
    return tuple(
        sum([number * choose(many - 2 * j, k - j) for j, number in enumerate(row)]) for k in range(many + 1)
    )


def apart_sets(web, size):
    """The list of the APART SETS of the size, in order."""
    known = {tie: True for tie in web[1]}
    # With each set the places behind its last one that are tied to none of it.
    growing = [((), list(range(web[0])))]
    while growing and len(growing[0][0]) < size:
        growing = [grown for chosen, free in growing for grown in grown_sets(known, chosen, free)]
    return [chosen for chosen, free in growing]


def grown_sets(ties, chosen, free):
    """The list of the sets with one more of the free places, each with those that are free behind it."""
    told = []
    for k, place in enumerate(free):
        left = [other for other in free[k + 1:] if (place, other) not in ties]
        told.append(((*chosen, place), left))
    return told
