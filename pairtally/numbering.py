"""The maker of number papers."""

from pairtally.counting import counted
from pairtally.numbers import behind, passed_by


def number_paper(web, pairing):
    """A NUMBER PAPER of the web, the pairing and its number."""
    row, paper = row_and_paper(web)
    return row, paper, tuple(made_step(web, passed_by(web, pairing, i)) for i in range(len(pairing)))


def made_step(web, asked):
    """The step with a row and a count paper of the web BEHIND each asked pairing."""
    return tuple(row_and_paper(behind(web, first)) for first in asked)


def row_and_paper(web):
    """The web's row, and a count paper of both."""
    paper = counted(web)
    return paper[-1][1], paper
