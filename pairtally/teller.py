"""A teller, which deals the pairings of a web."""

from pairtally.errors import NoPairing
from pairtally.numbers import pairing_at
from pairtally.webs import without_places
from pairtally.weights import even_row


class Teller:
    """Deals the pairings of a web, each once, and takes them back."""

    def __init__(self, web):
        self.web = web
        self.counts = even_row(web)
        # In the order of dealing, pairs of a pairing's number among all and the pairing.
        self.dealt = []

    def deal(self, number):
        """The pairing that stands at the number among those not dealt, which is dealt then; else NoPairing."""
        if not 0 <= number < self.many_left():
            raise NoPairing("no pairing that is not dealt stands there")
        for taken, pairing in sorted(self.dealt):
            if taken <= number:
                number += 1
        told = pairing_at(self.web, number)
        self.dealt.append((number, told))
        return told

    def take_back(self):
        """The pairing dealt last, which is not dealt then; NoPairing where none is dealt."""
        if not self.dealt:
            raise NoPairing("no pairing is dealt")
        number, pairing = self.dealt.pop()
        return pairing

    def many_left(self):
        """How many pairings are not dealt."""
        return sum(self.counts) - len(self.dealt)

    def counts_left(self):
        """How many of each size, up to the greatest of the web, are not dealt."""
        left = list(self.counts)
        for number, pairing in self.dealt:
            left[len(pairing)] -= 1
        return tuple(left)

    def left_with(self, tie):
        """How many that are not dealt hold the tie."""
        holding = sum(even_row(without_places(self.web, tie)))
        return holding - sum(1 for number, pairing in self.dealt if tie in pairing)

    def all_dealt(self):
        """The list of the pairings dealt, in the order of dealing."""
        return [pairing for number, pairing in self.dealt]
