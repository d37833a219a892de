"""Rows said to a desk, read: their words, and what these stand for."""

from pairtally.errors import NoLine, NoText
from pairtally.webs import is_pair, is_place, is_tie
from pairtally.webtexts import read_number, read_pair, read_web

LETTERS = "abcdefghijklmnopqrstuvwxyz"
MOST_LETTERS = 4
MOST_FIGURES = 40
MOST_BITS = 200

# By its first word, the kinds of the words that a row has behind it.
FORMS = {
    "web": ("new", "text"),
    "side": ("new", "kept", "kept"),
    "rest": ("new", "kept"),
    "lines": ("new", "kept"),
    "bare": ("new", "kept", "number"),
    "less": ("new", "kept", "number", "number"),
    "more": ("new", "kept", "number", "number"),
    "halve": ("new", "kept", "number", "number"),
    "names": (),
    "show": ("kept",),
    "row": ("kept",),
    "total": ("kept",),
    "mean": ("kept",),
    "tops": ("kept",),
    "like": ("kept", "kept"),
    "share": ("kept", "number", "number"),
    "number": ("kept", "pairs"),
    "pairing": ("kept", "number"),
    "draw": ("kept", "tape"),
}


def read_row(row, kept):
    """(word, things): the row's first word, and what its others stand for by the kept webs; NoLine where it is none."""
    words = row_words(row)
    word = words[0]
    if word not in FORMS or len(words) != 1 + len(FORMS[word]):
        raise NoLine(row)
    things = [read_word(kind, text, kept) for kind, text in zip(FORMS[word], words[1:])]
    if None in things or not do_fit(word, things):
        raise NoLine(row)
    return word, things


def has_new(word):
    """Whether a row with the word has a name by which a web is kept then."""
    return FORMS[word][:1] == ("new",)


def row_words(row):
    """The list of the words of the row, of web with all behind the name as one."""
    return row.split(" ", 2) if row.startswith("web ") else row.split(" ")


def read_word(kind, text, kept):
    """What the text stands for where a word of the kind is due, or None where it is none."""
    if kind == "new":
        return text if is_name(text) else None
    if kind == "kept":
        return kept.get(text)
    if kind == "number":
        return read_number(text, MOST_FIGURES)
    if kind == "pairs":
        return read_pairs(text)
    return read_tape(text) if kind == "tape" else read_text(text)


def is_name(text):
    """Whether the text is a name."""
    return 1 <= len(text) <= MOST_LETTERS and all(sign in LETTERS for sign in text)


def read_text(text):
    """The web that the text writes, or None."""
    try:
        return read_web(text)
    except NoText:
        return None


def read_pairs(text):
    """The tuple of the pairs of numbers that the text writes, or None; they may be no pairing."""
    if text == "-":
        return ()
    pairs = [read_pair(piece, MOST_FIGURES) for piece in text.split(",")]
    return None if None in pairs else tuple(pairs)


def read_tape(text):
    """The tape that the text writes, or None."""
    if not 1 <= len(text) <= MOST_BITS or not all(sign in "01" for sign in text):
        return None
    return tuple(int(sign) for sign in text)


def do_fit(word, things):
    """Whether the places and ties that a row with the word has are there, or not there, as they must be."""
    if word == "bare":
        return is_place(things[1], things[2])
    if word == "more":
        web, i, j = things[1:]
        return is_pair((i, j), web[0]) and not is_tie(web, (i, j))
    if word in ("less", "halve", "share"):
        web, i, j = things[-3:]
        return is_tie(web, (i, j))
    return True
