"""Webs written as texts, and texts read as webs."""

from pairtally.errors import NoText

FIGURES = "0123456789"
MOST_FIGURES = 4


def web_text(web):
    """The text that writes the web."""
    return " ".join([str(web[0])] + [f"{i}-{j}" for i, j in web[1]])


def read_web(text):
    """The web that the text writes; NoText of any other text."""
    words = text.split(" ")
    many = read_number(words[0], MOST_FIGURES)
    if many is None:
        raise NoText(0)
    ties = []
    for place in range(1, len(words)):
        tie = read_tie(words[place], many)
        if tie is None or (ties and tie <= ties[-1]):
            raise NoText(place)
        ties.append(tie)
    return many, tuple(ties)


def read_number(word, most):
    """The number that the word writes, or None where it writes none or has more figures than most."""
    if word == "" or len(word) > most or not all(sign in FIGURES for sign in word):
        return None
    if word[0] == "0" and word != "0":
        return None
    return int(word)


def read_tie(word, many):
    """The tie of a web of so many places that the word writes, or None."""
    # Numbers of ties stand below MANY, so they can't have more figures than it either.
    pair = read_pair(word, MOST_FIGURES)
    if pair is None or not pair[0] < pair[1] < many:
        return None
    return pair


def read_pair(word, most):
    """The two numbers that the word writes as I-J, or None where it is none or one has more figures than most."""
    numbers = [read_number(piece, most) for piece in word.split("-")]
    if len(numbers) != 2 or None in numbers:
        return None
    return tuple(numbers)
