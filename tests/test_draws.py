import itertools
import random
import unittest

from pairtally.draws import drawn
from pairtally.making import line_web, ring_web
from pairtally.numbers import pairing_by
from pairtally.pairings import row_of
from tests.support import assert_unchanged, bare, exact, line, ring, some_webs, star
from tests.test_weights import drawn_weights, weighed


def bits(number, many):
    return tuple(number >> (many - 1 - k) & 1 for k in range(many))


def least_bits(every):
    """The least b from 0 on with 2 to the b not below every."""
    many = 0
    while 2 ** many < every:
        many += 1
    return many


def drawn_by_hand(web, weights, tape):
    """By reading so many of the tape again and again."""
    every = sum(weight for pairing, weight in weighed(web, weights))
    many = least_bits(every)
    used = 0
    while True:
        if used + many > len(tape):
            return None
        number = int("0" + "".join(map(str, tape[used:used + many])), 2)
        used += many
        if number < every:
            return pairing_by(web, weights, number)[0], used


class Draws(unittest.TestCase):
    def test_all_tapes_of_b(self):
        source = random.Random(391)
        for web in some_webs(most=5, each=3, seed=392):
            for weights in ((1,) * len(web[1]), drawn_weights(source, web, 3)):
                heavy = dict(weighed(web, weights))
                many = least_bits(sum(heavy.values()))
                if many > 9:
                    continue
                led = {}
                for tape in itertools.product((0, 1), repeat=many):
                    told = drawn(web, weights, tape)
                    if told is not None:
                        self.assertEqual(exact(told[1]), exact(many))
                        led[told[0]] = led.get(told[0], 0) + 1
                self.assertEqual(led, heavy)

    def test_drawn_tapes(self):
        source = random.Random(393)
        ends = 0
        for web in some_webs(most=7, each=3, seed=394):
            for again in range(6):
                weights = drawn_weights(source, web, source.choice((1, 2, 100)))
                chance = source.choice((0.2, 0.5, 0.9))
                tape = tuple(int(source.random() < chance) for k in range(source.choice((0, 3, 10, 40, 200))))
                told = drawn(web, weights, tape)
                ends += told is None
                self.assertEqual(exact(told), exact(drawn_by_hand(web, weights, tape)))
        self.assertGreater(ends, 10)

    def test_passed_over(self):
        # Five pairings, three of the tape for each: 5, 6 and 7 are passed over.
        web, ones = line(4), (1, 1, 1)
        self.assertEqual(exact(drawn(web, ones, (0, 0, 0))), exact(((), 3)))
        self.assertEqual(exact(drawn(web, ones, (1, 0, 0))), exact((((0, 1), (2, 3)), 3)))
        self.assertEqual(exact(drawn(web, ones, (0, 0, 1, 1, 1))), exact((((0, 1),), 3)))
        for passed in (5, 6, 7):
            for times in (1, 2, 20):
                ahead = bits(passed, 3) * times
                self.assertEqual(exact(drawn(web, ones, ahead + (0, 1, 1))), exact((((2, 3),), 3 * times + 3)))
                for short in ((), (0,), (0, 1)):
                    self.assertIsNone(drawn(web, ones, ahead + short))

    def test_tapes_of_none_and_of_ones(self):
        web, ones = line(4), (1, 1, 1)
        for tape in ((), (0,), (0, 0), (1,), (1, 1)):
            self.assertIsNone(drawn(web, ones, tape))
        for many in (3, 50, 198, 200):
            self.assertIsNone(drawn(web, ones, (1,) * many))
        # Four pairings fill two of the tape.
        self.assertEqual(exact(drawn(star(4), ones, (1, 1))), exact((((0, 3),), 2)))
        self.assertEqual(exact(drawn(star(4), ones, (1,) * 200)), exact((((0, 3),), 2)))

    def test_no_ties(self):
        for n in range(10):
            for tape in ((), (0,), (1,), (1,) * 200):
                self.assertEqual(exact(drawn(bare(n), (), tape)), "((), 0)")

    def test_weights(self):
        # (1, 3): nought leads to (), one to three to the tie.
        self.assertEqual([drawn(line(2), (3,), bits(k, 2)) for k in range(4)], [((), 2)] + [(((0, 1),), 2)] * 3)
        self.assertEqual(drawn(line(2), (4,), bits(4, 3)), (((0, 1),), 3))
        self.assertIsNone(drawn(line(2), (4,), bits(5, 3)))
        self.assertEqual(drawn(line(2), (1,), (0,)), ((), 1))
        self.assertEqual(drawn(line(2), (1,), (1,)), (((0, 1),), 1))

    def test_told_webs_of_more_places(self):
        source = random.Random(395)
        for web in (line_web(12), ring_web(12)):
            ones = (1,) * len(web[1])
            many = least_bits(sum(row_of(web)))
            for number in {0, 1, sum(row_of(web)) - 1, source.randrange(sum(row_of(web)))}:
                self.assertEqual(drawn(web, ones, bits(number, many)), (pairing_by(web, ones, number)[0], many))
            self.assertIsNone(drawn(web, ones, bits(sum(row_of(web)), many)))

    def test_nothing_is_changed(self):
        assert_unchanged(self, drawn, ring(5), (1, 2, 3, 4, 5), (0, 1) * 20)
        assert_unchanged(self, drawn, ring(5), (1, 2, 3, 4, 5), (1,))


if __name__ == "__main__":
    unittest.main()
