"""A desk, which keeps webs by names and answers rows of words."""

from pairtally.deskrows import has_new, read_row
from pairtally.draws import drawn
from pairtally.errors import TooMany
from pairtally.joining import divided, lines_web, side_by_side, with_tie
from pairtally.liking import least_unlike
from pairtally.numbers import number_of, pairing_at
from pairtally.rests import rest_web
from pairtally.tops import mean, tops, total
from pairtally.webs import even_weights, without_places, without_tie
from pairtally.webtexts import web_text
from pairtally.weights import even_row, share

MOST_PLACES = 9


class Desk:
    """Keeps webs by names."""

    def __init__(self):
        self.kept = {}

    def say(self, row):
        """The answer to the row; NoLine where it is none, TooMany, NoPairing."""
        word, things = read_row(row, self.kept)
        if word == "names":
            return " ".join(sorted(self.kept)) or "-"
        if has_new(word):
            return self.keep(things[0], made_web(word, things[1:]))
        return answer(word, things[0], things[1:])

    def keep(self, name, web):
        """Keeps the web by the name, and tells its text; TooMany where it has more than nine places."""
        if web[0] > MOST_PLACES:
            raise TooMany("the web has too many places for a desk")
        self.kept[name] = web
        return web_text(web)


def made_web(word, things):
    """The web that a row with the word makes of a web and what stands behind it."""
    web, *others = things
    if word == "side":
        return side_by_side(web, others[0])
    if word == "rest":
        return rest_web(web)
    if word == "lines":
        return lines_web(web)
    if word == "bare":
        return without_places(web, tuple(others))
    if word == "less":
        return without_tie(web, tuple(others))
    if word == "more":
        return with_tie(web, *others)
    return divided(web, tuple(others)) if word == "halve" else web


def answer(word, web, others):
    """What a row with the word tells of the web and what stands behind it."""
    if word == "show":
        return web_text(web)
    if word == "like":
        return like_text(least_unlike(web, others[0]))
    if word == "share":
        return fraction_text(share(web, even_weights(web), tuple(others)))
    if word == "number":
        return str(number_of(web, others[0]))
    if word == "pairing":
        return pairing_text(pairing_at(web, others[0]))
    if word == "draw":
        return draw_text(drawn(web, even_weights(web), others[0]))
    return row_answer(word, even_row(web))


def row_answer(word, row):
    """What a row with the word tells of a web's row."""
    if word == "total":
        return str(total(row))
    if word == "mean":
        return fraction_text(mean(row))
    return numbers_text(tops(row) if word == "tops" else row)


def numbers_text(numbers):
    """The numbers, parted by blanks."""
    return " ".join([str(number) for number in numbers])


def fraction_text(fraction):
    """The FRACTION as TOP/BOTTOM."""
    return f"{fraction[0]}/{fraction[1]}"


def pairing_text(pairing):
    """The pairing's ties, parted by commas."""
    return ",".join([f"{i}-{j}" for i, j in pairing]) or "-"


def like_text(size):
    """What is told of two webs that are unlike first at the size, or like, of None."""
    return "like" if size is None else f"unlike {size}"


def draw_text(told):
    """What is told of a draw."""
    return "-" if told is None else f"{pairing_text(told[0])} {told[1]}"
