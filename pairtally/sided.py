"""Sided webs, their rests, and the rows of both."""

from pairtally.basics import choose
from pairtally.polys import trimmed


def sided_web(a, b):
    """FULL SIDED of a and b."""
    return a + b, tuple((i, j) for i in range(a) for j in range(a, a + b))


def sided_row(a, b):
    """The row of FULL SIDED of a and b."""
    row = []
    orders = 1
    for k in range(min(a, b) + 1):
        # k of the one side and k of the other are paired in so many ways: 1 * 2 .. k.
        row.append(choose(a, k) * choose(b, k) * orders)
        orders *= k + 1
    return tuple(row)


def sided_rest(a, b, web):
    """The SIDED REST of a sided web of a and b."""
    known = {tie: True for tie in web[1]}
    return a + b, tuple(tie for tie in sided_web(a, b)[1] if tie not in known)


def sided_rest_row(a, b, row):
    """The row of the SIDED REST of a sided web of a and b with the row."""
    numbers = [0] * (min(a, b) + 1)
    for j, number in enumerate(row):
        # What holds j ties of the web is counted in and out in turn.
        signed = -number if j & 1 else number
        for k, ways in enumerate(sided_row(a - j, b - j)):
            numbers[j + k] += signed * ways
    return trimmed(numbers)
