"""The refusals: one base, and each kind right under it."""


class TallyError(ValueError):
    """Any refusal, made of a text."""


class NoPaper(TallyError):
    """A checker does not let a thing by: its word, and the place of what is wrong."""

    def __init__(self, word, place):
        super().__init__("the paper is not let by")
        self.word = word
        self.place = place


class NoText(TallyError):
    """A text writes no web: the place of its first wrong word."""

    def __init__(self, place):
        super().__init__("the text writes no web")
        self.place = place


class NoLine(TallyError):
    """A row said to a desk is none: that row."""

    def __init__(self, line):
        super().__init__("the desk knows no such row")
        self.line = line


class NoPairing(TallyError):
    """There is no such pairing; made of a text."""


class TooMany(TallyError):
    """There are more than may be told; made of a text."""
