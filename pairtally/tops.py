"""The total, the mean, the tops and the dent of a row."""

from pairtally.polys import lowest


def total(row):
    """The sum of the row's numbers."""
    return sum(row)


def mean(row):
    """The FRACTION of the sum of k times the row's k-th number over the total."""
    return lowest(sum(k * number for k, number in enumerate(row)), total(row))


def tops(row):
    """The numbers k of the row's greatest ones, rising."""
    greatest = max(row)
    return tuple(k for k, number in enumerate(row) if number == greatest)


def rises_and_falls(row):
    """Whether none of the row is below both some one ahead of it and some one behind it."""
    has_fallen = False
    for k in range(1, len(row)):
        if has_fallen and row[k] > row[k - 1]:
            return False
        has_fallen = has_fallen or row[k] < row[k - 1]
    return True


def dent(row):
    """The least k at which the row has a dent, or None."""
    d = len(row) - 1
    for k in range(1, d):
        beside = row[k - 1] * row[k + 1] * (k + 1) * (d - k + 1)
        if row[k] * row[k] * k * (d - k) < beside:
            return k
    return None
