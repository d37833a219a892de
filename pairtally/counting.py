"""The maker of count papers."""

from pairtally.countchecker import asked_webs, made_row
from pairtally.errors import TooMany

MOST_PLACES = 9


def count_paper(web):
    """A COUNT PAPER of the web and its row; TooMany of a web of more than nine places."""
    if web[0] > MOST_PLACES:
        raise TooMany("the web has too many places for a count paper")
    entries = []
    enter(web, entries, {})
    return tuple(entries)


def enter(web, entries, known):
    """Puts an entry of the web behind those that it asks for, unless it is known; tells its row."""
    if web not in known:
        way = ("place", 0) if web[1] else ("bare",)
        row = made_row(way, [enter(other, entries, known) for other in asked_webs(web, way)])
        entries.append((web, row, way))
        known[web] = row
    return known[web]
