"""The checker of share papers."""

from pairtally.basics import has_parts
from pairtally.countchecker import is_count_paper
from pairtally.errors import NoPaper
from pairtally.polys import lowest
from pairtally.rows import is_row_from_one
from pairtally.tops import total
from pairtally.webs import without_places


def lets_share(web, tie, fraction, thing):
    """True where the thing, any, is a SHARE PAPER of the web, the tie and the fraction; else NoPaper."""
    if not is_share_shape(thing):
        raise NoPaper("shape", 0)
    word, row, paper, other, kept = thing
    if not is_count_paper(web, row, paper):
        raise NoPaper("whole", 0)
    if not is_count_paper(without_places(web, tie), other, kept):
        raise NoPaper("kept", 0)
    if lowest(total(other), total(row)) != fraction:
        raise NoPaper("share", 0)
    return True


def is_share_shape(thing):
    """Whether the thing, any, is a share paper by kind."""
    if not has_parts(thing, 5):
        return False
    return thing[0] == "share" and is_row_from_one(thing[1]) and is_row_from_one(thing[3])
