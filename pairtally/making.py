"""Webs that are made by a number of places, and their rows."""

from pairtally.basics import choose


def full_web(n):
    """FULL of n places."""
    return n, tuple((i, j) for i in range(n) for j in range(i + 1, n))


def line_web(n):
    """LINE of n places."""
    return n, tuple((k, k + 1) for k in range(n - 1))


def ring_web(n):
    """RING of n places, n from 3."""
    return n, tuple(sorted((*line_web(n)[1], (0, n - 1))))


def fork_web(n):
    """FORK of n places, n from 4."""
    return n, tuple(sorted((*line_web(n - 1)[1], (1, n - 1))))


def full_row(n):
    """The row of FULL."""
    row = []
    ways = 1
    for k in range(n // 2 + 1):
        # In so many ways 2 k places make k pairs: 1 * 3 * 5 .. (2 k - 1).
        row.append(choose(n, 2 * k) * ways)
        ways *= 2 * k + 1
    return tuple(row)


def line_row(n):
    """The row of LINE."""
    return tuple(choose(n - k, k) for k in range(n // 2 + 1))


def ring_row(n):
    """The row of RING."""
    return tuple(choose(n - k, k) + choose(n - k - 1, k - 1) for k in range(n // 2 + 1))


def fork_row(n):
    """The row of FORK."""
    return ring_row(n - 1)
