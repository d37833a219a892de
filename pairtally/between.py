"""Roots that lie between roots, and how far those of a web go."""

from pairtally.signs import sign_step
from pairtally.webs import tied_places


def lies_between(one, other):
    """Whether the other's roots lie BETWEEN the one's; all are real, the one has one degree more."""
    # Walked from one and other as for a sign paper, each poly falls by just one degree, and all last numbers have
    # one sign, just where the roots that both do not share stand in turn. The other's own sign does not count.
    if other[-1] * one[-1] < 0:
        other = tuple(-number for number in other)
    while other:
        if len(other) != len(one) - 1 or other[-1] * one[-1] < 0:
            return False
        row, third = sign_step(one, other)
        one, other = other, third
    return True


def reach_of(web):
    """The REACH of the web."""
    most = max([len(others) for others in tied_places(web)], default=0)
    return most if most <= 1 else 4 * (most - 1)
