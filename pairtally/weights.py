"""WEIGHTS of a web's ties, weighted rows, and shares."""

from pairtally.basics import added, are_from
from pairtally.pairings import is_ringless, ringless_row
from pairtally.polys import lowest
from pairtally.tops import total
from pairtally.webs import even_weights, tied_places, without_places


def is_weights(web, thing):
    """Whether the thing, any, is WEIGHTS of the web."""
    return are_from(thing, 1) and len(thing) == len(web[1])


def weight_of(web, weights, pairing):
    """The weight of the pairing."""
    heavy = dict(zip(web[1], weights))
    product = 1
    for tie in pairing:
        product *= heavy[tie]
    return product


def even_row(web):
    """The row of a web of any number of places, by WEIGHTS of 1."""
    return weighted_row(web, even_weights(web))


def weighted_row(web, weights):
    """The WEIGHTED ROW of the web."""
    if is_ringless(web):
        return ringless_row(web, weights)
    heavier = heavy_ties(web, weights)
    # By the places that are paired with one that was passed, and are not passed themselves: the rows so far.
    rows = {(): (1,)}
    passed = {}
    for place in passing_order(tied_places(web)):
        passed[place] = True
        ahead = [(other, weight) for other, weight in heavier[place] if other not in passed]
        rows = rows_behind(rows, place, ahead)
    return tuple(rows[()])


def heavy_ties(web, weights):
    """The list with, at each place, the list of (other, weight) of its ties."""
    heavier = [[] for place in range(web[0])]
    for (i, j), weight in zip(web[1], weights):
        heavier[i].append((j, weight))
        heavier[j].append((i, weight))
    return heavier


def passing_order(tied):
    """The list of all places, in an order in which few of them wait: tied to passed ones and not passed."""
    # By a place that is not passed: whether it waits.
    waits = {here: False for here in range(len(tied))}
    order = []
    while waits:
        more, place = min([(waiting_more(tied, waits, here), here) for here in waits])
        del waits[place]
        waits.update({other: True for other in tied[place] if other in waits})
        order.append(place)
    return order


def waiting_more(tied, waits, place):
    """How many more places wait where the place is passed next."""
    begin = sum(1 for other in tied[place] if other in waits and not waits[other])
    return begin - 1 if waits[place] else begin


def rows_behind(rows, place, ahead):
    """The rows, likewise, where the place is passed, too; ahead are the others tied to it, with weights."""
    behind = {}
    for used, row in rows.items():
        if place in used:
            put_in(behind, tuple(other for other in used if other != place), row)
        else:
            put_in(behind, used, row)
            for other, weight in ahead:
                if other not in used:
                    put_in(behind, tuple(sorted((*used, other))), [0] + [weight * number for number in row])
    return behind


def put_in(rows, used, row):
    """Adds the row to what the rows have for the used places."""
    rows[used] = added(rows.get(used, ()), row)


def weights_total(web, weights):
    """The sum of the weights of all pairings."""
    return total(weighted_row(web, weights))


def total_without(web, weights, places):
    """The sum of the weights of all pairings that leave the places bare."""
    kept = [weight for (i, j), weight in zip(web[1], weights) if i not in places and j not in places]
    return weights_total(without_places(web, places), tuple(kept))


def share(web, weights, tie):
    """The share of the tie, by the WEIGHTS."""
    holding = weight_of(web, weights, (tie,)) * total_without(web, weights, tie)
    return lowest(holding, weights_total(web, weights))


def bare_share(web, weights, place):
    """The bare share of the place, by the WEIGHTS."""
    return lowest(total_without(web, weights, (place,)), weights_total(web, weights))
