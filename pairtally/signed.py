"""The signed polys of webs."""

from pairtally.pairings import row_of
from pairtally.polys import trimmed


def signed_row(many, row):
    """The SIGNED poly of a web of so many places with the row."""
    return trimmed([signed_number(many - at, row) for at in range(many + 1)])


def signed_number(below, row):
    """The number of the SIGNED poly that stands so far below its last one."""
    size = below // 2
    if below != 2 * size or size >= len(row):
        return 0
    return -row[size] if size & 1 else row[size]


def signed_of(web):
    """The SIGNED poly of the web, whose row is told; else TooMany."""
    return signed_row(web[0], row_of(web))
