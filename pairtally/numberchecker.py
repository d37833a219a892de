"""The checker of number papers."""

from pairtally.basics import has_parts
from pairtally.countchecker import is_count_paper
from pairtally.errors import NoPaper
from pairtally.numbers import behind, passed_by
from pairtally.rows import is_row_from_one


def lets_number(web, pairing, number, thing):
    """True where the thing, any, is a NUMBER PAPER of the web, the pairing and the number; else NoPaper."""
    size = len(pairing)
    if not is_number_shape(size, thing):
        raise NoPaper("shape", 0)
    row, paper, steps = thing
    if not is_count_paper(web, row, paper):
        raise NoPaper("row", 0)
    for i, step in enumerate(steps):
        if not is_right_step(web, passed_by(web, pairing, i), step):
            raise NoPaper("step", i)
    if number != told_number(row, steps):
        raise NoPaper("number", 0)
    return True


def is_number_shape(size, thing):
    """Whether the thing, any, is a number paper by kind of a pairing of the size."""
    if not has_parts(thing, 3) or not is_row_from_one(thing[0]):
        return False
    return has_parts(thing[2], size) and all(is_step(step) for step in thing[2])


def is_step(thing):
    """Whether the thing, any, is a tuple of pairs of a row and any thing."""
    return isinstance(thing, tuple) and all(has_parts(pair, 2) and is_row_from_one(pair[0]) for pair in thing)


def is_right_step(web, asked, step):
    """Whether the step has, for each asked pairing, a row and a count paper of the web BEHIND it, and no more."""
    if len(step) != len(asked):
        return False
    return all(is_count_paper(behind(web, first), row, paper) for first, (row, paper) in zip(asked, step))


def told_number(row, steps):
    """The number that the row and the steps' rows make up."""
    size = len(steps)
    number = sum(row[:size])
    for i, step in enumerate(steps):
        left = size - i - 1
        number += sum(counts[left] for counts, paper in step if left < len(counts))
    return number
