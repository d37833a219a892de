"""The rests of webs, and rows by those of rests."""

from pairtally.making import full_row, full_web
from pairtally.polys import trimmed
from pairtally.rows import row_product


def rest_web(web):
    """The REST of the web."""
    known = {tie: True for tie in web[1]}
    return web[0], tuple(tie for tie in full_web(web[0])[1] if tie not in known)


def rest_row(many, row):
    """The row of the REST of a web of so many places with the row."""
    total = [0] * (many // 2 + 1)
    for j, number in enumerate(row):
        # What holds j ties of the web is counted in and out in turn.
        counted = -number if j & 1 else number
        for k, ways in enumerate(full_row(many - 2 * j)):
            total[j + k] += counted * ways
    return trimmed(total)


def joined_row(many, row, more, other):
    """The row of JOINED webs, by the numbers of places and the rows of both."""
    return rest_row(many + more, row_product(rest_row(many, row), rest_row(more, other)))
