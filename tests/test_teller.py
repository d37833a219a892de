import random
import unittest

from pairtally.errors import NoPairing
from pairtally.making import line_web
from pairtally.pairings import row_of
from pairtally.teller import Teller
from tests.support import all_pairings, assert_refused, assert_unchanged, bare, exact, full, line, ring, some_webs, star
from tests.test_numbers import in_order


class Model:
    """A teller by lists alone."""

    def __init__(self, web):
        self.web = web
        self.left = in_order(web)
        self.dealt = []

    def deal(self, number):
        self.dealt.append(self.left.pop(number))
        return self.dealt[-1]

    def take_back(self):
        pairing = self.dealt.pop()
        self.left = [one for one in in_order(self.web) if one not in self.dealt]
        return pairing

    def counts(self):
        greatest = max(len(pairing) for pairing in all_pairings(self.web))
        return tuple(sum(len(one) == size for one in self.left) for size in range(greatest + 1))


class Dealing(unittest.TestCase):
    def assert_alike(self, teller, model):
        self.assertEqual(exact(teller.many_left()), exact(len(model.left)))
        self.assertEqual(exact(teller.counts_left()), exact(model.counts()))
        self.assertEqual(exact(teller.all_dealt()), exact(model.dealt))
        for tie in model.web[1]:
            self.assertEqual(exact(teller.left_with(tie)), exact(sum(tie in one for one in model.left)))

    def assert_refusals(self, teller, model):
        many = len(model.left)
        for number in (-1, -many, many, many + 1, 10 ** 39, -(10 ** 39)):
            if not 0 <= number < many:
                assert_refused(self, NoPairing, {}, teller.deal, number)
        if not model.dealt:
            assert_refused(self, NoPairing, {}, teller.take_back)
        self.assert_alike(teller, model)

    def test_all_are_dealt(self):
        source = random.Random(401)
        for web in some_webs(most=5, each=3, seed=402):
            for choose in (lambda many: 0, lambda many: many - 1, lambda many: many // 2, source.randrange):
                teller, model = Teller(web), Model(web)
                self.assert_refusals(teller, model)
                while model.left:
                    number = choose(len(model.left))
                    self.assertEqual(exact(teller.deal(number)), exact(model.deal(number)))
                self.assert_refusals(teller, model)
                while model.dealt:
                    self.assertEqual(exact(teller.take_back()), exact(model.take_back()))
                self.assert_refusals(teller, model)

    def test_drawn_steps(self):
        source = random.Random(403)
        for web in some_webs(most=6, each=2, seed=404)[::2]:
            teller, model = Teller(web), Model(web)
            for step in range(25):
                if model.dealt and source.random() < 0.4:
                    self.assertEqual(exact(teller.take_back()), exact(model.take_back()))
                elif model.left:
                    number = source.choice((0, len(model.left) - 1, source.randrange(len(model.left))))
                    self.assertEqual(exact(teller.deal(number)), exact(model.deal(number)))
                self.assert_refusals(teller, model)

    def test_edges(self):
        teller = Teller(bare(0))
        assert_refused(self, NoPairing, {}, teller.take_back)
        assert_refused(self, NoPairing, {}, teller.deal, 1)
        self.assertEqual(exact(teller.deal(0)), "()")
        self.assertEqual(exact((teller.many_left(), teller.counts_left(), teller.all_dealt())), "(0, (0,), [()])")
        assert_refused(self, NoPairing, {}, teller.deal, 0)
        self.assertEqual(exact(teller.take_back()), "()")
        self.assertEqual(exact((teller.many_left(), teller.counts_left(), teller.all_dealt())), "(1, (1,), [])")

    def test_noughts_stay_at_the_end(self):
        teller = Teller(line(4))
        self.assertEqual(teller.deal(4), ((0, 1), (2, 3)))
        self.assertEqual(exact(teller.counts_left()), "(1, 3, 0)")
        self.assertEqual(exact([teller.left_with(tie) for tie in line(4)[1]]), "[1, 1, 1]")
        self.assertEqual(teller.deal(0), ())
        self.assertEqual(exact(teller.counts_left()), "(0, 3, 0)")

    def test_a_told_list_is_the_askers_own(self):
        teller = Teller(star(4))
        teller.deal(2)
        told = teller.all_dealt()
        told.append("more")
        told[0] = None
        self.assertEqual(teller.all_dealt(), [((0, 2),)])
        teller.all_dealt().clear()
        self.assertEqual((teller.many_left(), teller.take_back()), (3, ((0, 2),)))
        kept = teller.all_dealt()
        teller.deal(0)
        self.assertEqual(kept, [])

    def test_two_tellers_of_one_web(self):
        web = ring(4)
        one, other = Teller(web), Teller(web)
        self.assertEqual((one.deal(0), one.deal(0)), ((), ((0, 1),)))
        self.assertEqual((other.many_left(), other.all_dealt()), (7, []))
        self.assertEqual(other.deal(0), ())
        self.assertEqual(one.all_dealt(), [(), ((0, 1),)])
        assert_refused(self, NoPairing, {}, one.deal, 5)
        self.assertEqual(other.deal(5), ((0, 3), (1, 2)))
        self.assertEqual(Teller(web).counts_left(), (1, 4, 2))

    def test_greater_webs(self):
        teller = Teller(full(9))
        many = sum(row_of(full(9)))
        last = teller.deal(many - 1)
        self.assertEqual(last, ((1, 8), (2, 7), (3, 6), (4, 5)))
        self.assertEqual(teller.deal(many - 2), ((1, 8), (2, 7), (3, 5), (4, 6)))
        assert_refused(self, NoPairing, {}, teller.deal, many - 2)
        teller = Teller(line_web(12))
        for number in range(20):
            teller.deal(3 * number)
        self.assertEqual(len(set(teller.all_dealt())), 20)
        self.assertEqual(teller.many_left(), sum(row_of(line_web(12))) - 20)

    def test_nothing_is_changed(self):
        assert_unchanged(self, lambda web, tie: Teller(web).left_with(tie), ring(5), (0, 4))


if __name__ == "__main__":
    unittest.main()
