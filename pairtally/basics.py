"""What several modules need: kinds of numbers, and sums and products of sequences of numbers."""


def is_whole(thing):
    """Whether the thing is a whole number: an int that is no truth."""
    return isinstance(thing, int) and not isinstance(thing, bool)


def has_parts(thing, many):
    """Whether the thing, any, is a tuple of so many parts."""
    return isinstance(thing, tuple) and len(thing) == many


def are_whole(thing):
    """Whether the thing is a tuple of whole numbers alone."""
    return isinstance(thing, tuple) and all(is_whole(part) for part in thing)


def are_from(thing, least):
    """Whether the thing, any, is a tuple of whole numbers from least on."""
    return are_whole(thing) and all(part >= least for part in thing)


def is_rising(things):
    """Whether things of one kind stand as Python sorts them, each once."""
    return all(things[k - 1] < things[k] for k in range(1, len(things)))


def added(one, other):
    """The list of the sums, number by number; the shorter one goes on with noughts."""
    longer, shorter = (one, other) if len(one) >= len(other) else (other, one)
    total = list(longer)
    for k, number in enumerate(shorter):
        total[k] += number
    return total


def multiplied(one, other):
    """The list with, at k, the sum over all i of the one's at i times the other's at k - i."""
    if not one or not other:
        return []
    total = [0] * (len(one) + len(other) - 1)
    for i, left in enumerate(one):
        # Of signed polys every other number is 0.
        if left != 0:
            for j, right in enumerate(other):
                total[i + j] += left * right
    return total


def divisor(one, other):
    """The greatest whole number that divides both; of two noughts 0."""
    while other != 0:
        one, other = other, one % other
    return abs(one)


def choose(n, k):
    """How many ways there are to take k of n; 0 where there is none."""
    if not 0 <= k <= n:
        return 0
    ways = 1
    for i in range(k):
        ways = ways * (n - i) // (i + 1)
    return ways
