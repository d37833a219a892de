"""Rows: how many pairings there are of each size."""

from pairtally.basics import added, are_from, multiplied


def is_row(thing):
    """Whether the thing, any, is a ROW by its kind."""
    return are_from(thing, 0) and len(thing) > 0 and thing[-1] != 0


def is_row_from_one(thing):
    """Whether the thing, any, is a ROW by its kind without noughts, as that of each web is."""
    return are_from(thing, 1) and len(thing) > 0


def row_sum(one, other):
    """The sum of two rows, size by size."""
    return tuple(added(one, other))


def row_on(row):
    """The row's counts each one size on."""
    return 0, *row


def row_product(one, other):
    """The product of two rows."""
    return tuple(multiplied(one, other))
