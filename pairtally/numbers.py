"""The pairings of a web by their numbers."""

from pairtally.errors import NoPairing
from pairtally.pairings import is_free
from pairtally.webs import even_weights, is_pairing
from pairtally.weights import weight_of, weighted_row


def behind(web, pairing):
    """The web BEHIND the pairing."""
    if not pairing:
        return web
    used = {place: True for tie in pairing for place in tie}
    return web[0], tuple(tie for tie in web[1] if tie > pairing[-1] and is_free(tie, used))


def passed_by(web, pairing, i):
    """The list of the pairings with the first i ties of the pairing and one that stands ahead of its i-th."""
    first = pairing[:i]
    return [(*first, tie) for tie in behind(web, first)[1] if tie < pairing[i]]


def begun_with(web, weights, first, size):
    """The sum of the weights of all pairings of the size whose first ties are those of the pairing first."""
    later = behind(web, first)
    heavy = dict(zip(web[1], weights))
    row = weighted_row(later, tuple(heavy[tie] for tie in later[1]))
    left = size - len(first)
    return weight_of(web, weights, first) * row[left] if left < len(row) else 0


def number_of(web, thing):
    """The number of the thing, any, among the web's pairings; NoPairing where it is none."""
    if not is_pairing(web, thing):
        raise NoPairing("the web has no such pairing")
    size = len(thing)
    weights = even_weights(web)
    number = sum(weighted_row(web, weights)[:size])
    for i in range(size):
        number += sum(begun_with(web, weights, first, size) for first in passed_by(web, thing, i))
    return number


def pairing_at(web, number):
    """The pairing that has the number; NoPairing where none has."""
    return pairing_by(web, even_weights(web), number)[0]


def pairing_by(web, weights, number):
    """(pairing, k): by the WEIGHTS the number is the pairing's k-th; NoPairing where none has it."""
    row = weighted_row(web, weights)
    if not 0 <= number < sum(row):
        raise NoPairing("no pairing of the web has this number")
    size = 0
    while number >= row[size]:
        number -= row[size]
        size += 1
    pairing = ()
    while len(pairing) < size:
        pairing, number = with_next(web, weights, pairing, size, number)
    return pairing, number


def with_next(web, weights, pairing, size, number):
    """The pairing with the next tie of the one of the size that has the number among those begun with it.

    With it is told that one's number among those begun with both.
    """
    for tie in behind(web, pairing)[1]:
        longer = (*pairing, tie)
        many = begun_with(web, weights, longer, size)
        if number < many:
            break
        number -= many
    return longer, number
