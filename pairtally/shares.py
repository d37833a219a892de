"""The maker of share papers."""

from pairtally.counting import counted
from pairtally.webs import without_places


def share_paper(web, tie):
    """A SHARE PAPER of the web, the tie and its share by WEIGHTS of 1."""
    paper, kept = counted(web), counted(without_places(web, tie))
    return "share", paper[-1][1], paper, kept[-1][1], kept
