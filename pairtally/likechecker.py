"""The checker of like papers: it looks at their entries alone and goes through no pairings."""

from pairtally.basics import are_whole, has_parts, is_whole
from pairtally.countchecker import is_count_paper, is_paper_web
from pairtally.errors import NoPaper
from pairtally.rests import rest_web
from pairtally.rows import is_row
from pairtally.webs import (
    is_numbering, is_place, is_tie, neighbours, parts, renumbered, web_on, without_places, without_tie,
)

# By its word, the kinds of the things that a way has behind it.
WAYS = {
    "same": ("numbers",),
    "tie": ("tie", "tie"),
    "place": ("number", "number", "numbers"),
    "parts": ("numbers",),
    "side": ("number", "number"),
    "rest": (),
    "turned": (),
    "by": ("web",),
    "rows": ("row", "any", "any"),
}


def lets_like(one, other, thing):
    """True where the thing, any, is a LIKE PAPER for the two webs; else NoPaper."""
    if not is_like_shape(thing):
        raise NoPaper("shape", -1)
    known = {}
    for k, (left, right, way) in enumerate(thing):
        if not is_way(way):
            raise NoPaper("way", k)
        asked = asked_pairs(left, right, way)
        if asked is None or not all(pair in known for pair in asked):
            raise NoPaper("entry", k)
        known[(left, right)] = True
    if thing[-1][:2] != (one, other):
        raise NoPaper("last", -1)
    return True


def is_like_shape(thing):
    """Whether the thing, any, is a tuple of one or more triples of two webs and a tuple."""
    return isinstance(thing, tuple) and len(thing) > 0 and all(is_triple(part) for part in thing)


def is_triple(thing):
    """Whether the thing, any, is a tuple of two webs that papers may have and a tuple."""
    return has_parts(thing, 3) and is_paper_web(thing[0]) and is_paper_web(thing[1]) and isinstance(thing[2], tuple)


def is_way(way):
    """Whether the tuple is a way by kind."""
    if len(way) == 0 or not isinstance(way[0], str) or way[0] not in WAYS:
        return False
    kinds = WAYS[way[0]]
    return len(way) == 1 + len(kinds) and all(is_of_kind(kind, part) for kind, part in zip(kinds, way[1:]))


def is_of_kind(kind, thing):
    """Whether the thing, any, is of the kind."""
    if kind == "number":
        return is_whole(thing)
    if kind == "numbers":
        return are_whole(thing)
    if kind == "tie":
        return are_whole(thing) and len(thing) == 2
    if kind == "web":
        return is_paper_web(thing)
    return kind == "any" or is_row(thing)


def asked_pairs(one, other, way):
    """The list of the pairs of webs for which an entry must stand ahead, or None where the way does not fit."""
    word, *things = way
    if word == "tie":
        return pairs_by_tie(one, other, *things)
    if word == "place":
        return pairs_by_place(one, other, *things)
    if word == "parts":
        return pairs_by_parts(one, other, *things)
    if word == "side":
        return pairs_by_side(one, other, *things)
    if word == "turned":
        return [(other, one)]
    if word == "by":
        return [(one, things[0]), (things[0], other)]
    if word == "rest":
        return [(rest_web(one), rest_web(other))] if one[0] == other[0] else None
    alone = is_same(one, other, *things) if word == "same" else have_row(one, other, *things)
    return [] if alone else None


def is_same(one, other, numbers):
    """Whether the one web, renumbered by the numbers, is the other."""
    return is_numbering(one, numbers) and renumbered(one, numbers) == other


def have_row(one, other, row, paper, more):
    """Whether the two things are count papers of the one and of the other web, both with the row."""
    return is_count_paper(one, row, paper) and is_count_paper(other, row, more)


def pairs_by_tie(one, other, a, b):
    """The pairs without a tie of each, and without its two places; None where they are no ties."""
    if not is_tie(one, a) or not is_tie(other, b):
        return None
    return [(without_tie(one, a), without_tie(other, b)), (without_places(one, a), without_places(other, b))]


def pairs_by_place(one, other, p, q, order):
    """The pairs without a place of each, and without it and each neighbour; None where the order does not fit."""
    if not is_place(one, p) or not is_place(other, q):
        return None
    beside = neighbours(one, p)
    if len(order) != len(beside) or tuple(sorted(order)) != neighbours(other, q):
        return None
    bare = (without_places(one, (p,)), without_places(other, (q,)))
    return [bare] + [(without_places(one, (p, u)), without_places(other, (q, v))) for u, v in zip(beside, order)]


def pairs_by_parts(one, other, order):
    """The pairs of a part of each, by the order; None where it does not fit."""
    left, right = parts(one), parts(other)
    if len(order) != len(left) or sorted(order) != list(range(len(right))):
        return None
    return [(web_on(one, part), web_on(other, right[at])) for part, at in zip(left, order)]


def pairs_by_side(one, other, i, j):
    """The pairs of the first i and the first j places, and of the others; None where they are not apart."""
    if not is_apart(one, i) or not is_apart(other, j):
        return None
    left, right = tuple(range(i)), tuple(range(j))
    return [(web_on(one, left), web_on(other, right)), (without_places(one, left), without_places(other, right))]


def is_apart(web, first):
    """Whether the web has so many first places, and no tie from them to the others."""
    return 0 <= first <= web[0] and not any(i < first <= j for i, j in web[1])
