"""Rows: how many pairings there are of each size."""

from pairtally.basics import added, are_whole, multiplied


def is_row(thing):
    """Whether the thing, any, is a ROW by its kind."""
    if not are_whole(thing) or len(thing) == 0:
        return False
    return all(number >= 0 for number in thing) and thing[-1] != 0


def row_sum(one, other):
    """The sum of two rows, size by size."""
    return tuple(added(one, other))


def row_on(row):
    """The row's counts each one size on."""
    return 0, *row


def row_product(one, other):
    """The product of two rows."""
    return tuple(multiplied(one, other))
