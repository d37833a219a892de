"""The checker of count papers: it looks at their entries alone and goes through no pairings."""

from pairtally.basics import has_parts
from pairtally.errors import NoPaper
from pairtally.rows import is_row, row_on, row_product, row_sum
from pairtally.webs import (
    is_numbering, is_place, is_tie, is_web, neighbours, parts, renumbered, web_on, without_places, without_tie,
)

MOST_PLACES = 60


def lets_count(web, row, thing):
    """True where the thing, any, is a COUNT PAPER of the web and the row; else NoPaper."""
    look_at_shape(thing)
    known = {}
    for k, entry in enumerate(thing):
        look_at_entry(k, entry, known)
        known[entry[0]] = entry[1]
    if thing[-1][:2] != (web, row):
        raise NoPaper("last", -1)
    return True


def is_count_paper(web, row, thing):
    """Whether the thing, any, is a COUNT PAPER of the web and the row."""
    try:
        return lets_count(web, row, thing)
    except NoPaper:
        return False


def look_at_shape(thing):
    """NoPaper where the thing is no tuple of one or more entries by kind."""
    if not isinstance(thing, tuple) or len(thing) == 0:
        raise NoPaper("shape", -1)
    for k, part in enumerate(thing):
        if not is_entry(part):
            raise NoPaper("shape", k)


def is_entry(thing):
    """Whether the thing, any, is an entry by kind."""
    if not has_parts(thing, 3):
        return False
    web, row, way = thing
    return is_paper_web(web) and is_row(row) and is_way(web, way)


def is_paper_web(thing):
    """Whether the thing, any, is a WEB of so few places that papers may have it."""
    return is_web(thing) and thing[0] <= MOST_PLACES


def is_way(web, thing):
    """Whether the thing, any, is a way for an entry of the web."""
    if thing == ("bare",) or thing == ("parts",):
        return True
    if not has_parts(thing, 2):
        return False
    word, by = thing
    if word == "tie":
        return is_tie(web, by)
    if word == "place":
        return is_place(web, by)
    return word == "numbers" and is_numbering(web, by)


def look_at_entry(k, entry, known):
    """NoPaper where entry k is not right by the rows known from those ahead of it."""
    web, row, way = entry
    if way[0] == "bare" and web[1]:
        raise NoPaper("lacks", k)
    asked = asked_webs(web, way)
    if not all(other in known for other in asked):
        raise NoPaper("lacks", k)
    if row != made_row(way, [known[other] for other in asked]):
        raise NoPaper("row", k)


def asked_webs(web, way):
    """The list of the webs whose rows make up the web's row by the way."""
    word = way[0]
    if word == "tie":
        return [without_tie(web, way[1]), without_places(web, way[1])]
    if word == "place":
        here = way[1]
        gone = [(here,)] + [(min(here, other), max(here, other)) for other in neighbours(web, here)]
        return [without_places(web, places) for places in gone]
    if word == "parts":
        return [web_on(web, part) for part in parts(web)]
    if word == "numbers":
        return [renumbered(web, way[1])]
    return []


def made_row(way, rows):
    """The row that the rows of the asked webs make up by the way."""
    if way[0] in ("tie", "place"):
        return row_with_pairs(rows[0], rows[1:])
    # A bare web asks for no row, a renumbered one for just one: their products are right, too.
    return product_of_all(rows)


def row_with_pairs(row, others):
    """The sum of the row and, one on, of each of the others."""
    for other in others:
        row = row_sum(row, row_on(other))
    return row


def product_of_all(rows):
    """The product of all the rows; of none (1,)."""
    product = (1,)
    for row in rows:
        product = row_product(product, row)
    return product
