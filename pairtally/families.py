"""Two families of unlike webs with like rows."""

from pairtally.joining import side_by_side
from pairtally.making import fork_web, line_web, ring_web
from pairtally.webs import without_places, without_tie


def family_pair(word, n):
    """The two webs of the family "fork" or "line" with the number."""
    if word == "fork":
        return fork_web(n), side_by_side(line_web(1), ring_web(n - 1))
    return line_web(2 * n + 1), side_by_side(line_web(n), ring_web(n + 1))


def family_paper(word, n):
    """A LIKE PAPER for the two webs of the family, without rows in any way."""
    one, other = family_pair(word, n)
    a, b, numbers, further = fork_ties(n) if word == "fork" else line_ties(n)
    # Without a tie each, and without its places, they are the same but for their numbers.
    untied = (without_tie(one, a), without_tie(other, b), ("same", numbers))
    unplaced = (without_places(one, a), without_places(other, b), ("same", further))
    return untied, unplaced, (one, other, ("tie", a, b))


def fork_ties(n):
    """A tie of FORK and one of the ring, and by which numbers the webs without them, without their places, are same."""
    # Both times a place alone, and a line: of n - 1 places (FORK's begins at n - 1), then of n - 3.
    return (0, 1), (1, n - 1), (0,) + span(2, n) + (1,), span(1, n - 2) + (0,)


def line_ties(n):
    """As fork_ties, of a tie of the long LINE and one of the ring."""
    # Both times two lines: of n and n + 1 places, then of n - 1 and n, which stand the other way about.
    return (n - 1, n), (n, 2 * n), span(0, 2 * n + 1), span(n, 2 * n - 1) + span(0, n)


def span(low, high):
    """The numbers from low to one below high."""
    return tuple(range(low, high))
