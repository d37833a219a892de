"""The maker of count papers."""

from pairtally.countchecker import asked_webs, made_row
from pairtally.errors import TooMany
from pairtally.webs import parts

MOST_PLACES = 9


def count_paper(web):
    """A COUNT PAPER of the web and its row; TooMany of a web of more than nine places."""
    if web[0] > MOST_PLACES:
        raise TooMany("the web has too many places for a count paper")
    return counted(web)


def counted(web):
    """A COUNT PAPER of a web of any number of places that papers may have, and its row, which its last entry has."""
    entries = []
    enter(web, entries, {})
    return tuple(entries)


def way_for(web):
    """The way by which an entry of the web goes."""
    if not web[1]:
        return ("bare",)
    # Taken apart, webs of many places, such as trees, ask for far fewer others.
    return ("place", 0) if len(parts(web)) == 1 else ("parts",)


def enter(web, entries, known):
    """Puts an entry of the web behind those that it asks for, unless it is known; tells its row."""
    if web not in known:
        way = way_for(web)
        row = made_row(way, [enter(other, entries, known) for other in asked_webs(web, way)])
        entries.append((web, row, way))
        known[web] = row
    return known[web]
