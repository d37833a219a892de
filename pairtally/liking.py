"""The maker of like papers, and like papers for webs made of like webs."""

from pairtally.counting import counted
from pairtally.joining import side_by_side
from pairtally.rests import rest_web
from pairtally.weights import even_row


def like_told(one, other):
    """("like", paper), a LIKE PAPER for the two webs, or ("unlike", size), the least size of unlike many pairings."""
    size = least_unlike(one, other)
    if size is not None:
        return "unlike", size
    paper, more = counted(one), counted(other)
    return "like", ((one, other, ("rows", paper[-1][1], paper, more)),)


def least_unlike(one, other):
    """The least size of which the two webs have unlike many pairings, or None."""
    row, more = even_row(one), even_row(other)
    for size in range(min(len(row), len(more))):
        if row[size] != more[size]:
            return size
    # Behind its end a row has noughts, and the longer one has none.
    return None if len(row) == len(more) else min(len(row), len(more))


def for_rests(paper):
    """A LIKE PAPER for the rests of the two webs that the paper is for."""
    one, other = paper[-1][:2]
    # The rests of these rests are the webs themselves.
    return *paper, (rest_web(one), rest_web(other), ("rest",))


def beside(paper, web):
    """A LIKE PAPER for each of the two webs that the paper is for side by side with the web."""
    one, other = paper[-1][:2]
    third = (web, web, ("same", tuple(range(web[0]))))
    both = (side_by_side(one, web), side_by_side(other, web), ("side", one[0], other[0]))
    return *paper, third, both
