"""Pairings drawn evenly by a tape."""

from pairtally.numbers import pairing_by
from pairtally.weights import weights_total


def drawn(web, weights, tape):
    """(pairing, used): the pairing drawn by the tape, and how many of it were read; None where it ends first."""
    every = weights_total(web, weights)
    many = (every - 1).bit_length()
    used = 0
    while used + many <= len(tape):
        number = by_twos(tape[used:used + many])
        used += many
        if number < every:
            return pairing_by(web, weights, number)[0], used
    return None


def by_twos(bits):
    """The number that the noughts and ones are, the greatest place first."""
    number = 0
    for bit in bits:
        number = 2 * number + bit
    return number
