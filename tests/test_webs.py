import itertools
import random
import unittest

from pairtally.webs import (
    is_pairing, is_web, neighbours, parts, renumbered, web_on, without_places, without_tie,
)
from pairtally.webtexts import read_web, web_text
from tests.support import (
    ODD_THINGS, all_pairings, assert_truth, assert_unchanged, bare, drawn_tree, drawn_web, exact, full, kind_bends,
    line, ring, some_webs, star,
)

GREAT = 10 ** 39


def read_thirty():
    """A web of thirty places that was read."""
    return read_web(web_text(drawn_web(random.Random(30), 30, 0.2)))


class IsWeb(unittest.TestCase):
    def test_webs(self):
        for web in some_webs() + [read_thirty(), (GREAT, ()), (GREAT, ((0, GREAT - 1), (1, 2), (1, GREAT - 2)))]:
            assert_truth(self, True, is_web(web), web)

    def test_odd_things(self):
        for thing in ODD_THINGS:
            expected = exact(thing) == "(0, ())"
            assert_truth(self, expected, is_web(thing), thing)

    def test_bent_at_any_depth(self):
        for web in [bare(0), bare(1), (2, ((0, 1),)), (4, ((0, 1), (0, 3), (1, 2))), (GREAT, ((0, 1),))]:
            for bent in kind_bends(web):
                assert_truth(self, False, is_web(bent), bent)

    def test_wrong_ties(self):
        for ties in [
            ((1, 2), (0, 1)), ((0, 1), (0, 1)), ((0, 2), (0, 1)), ((1, 0),), ((1, 1),), ((0, 4),), ((4, 5),),
            ((-1, 1),), ((-2, -1),), ((0,),), ((0, 1, 2),), ((),), (0, 1), ((0, 1), ()), ((0, 1), (0, 1), (0, 2)),
        ]:
            assert_truth(self, False, is_web((4, ties)), ties)

    def test_wrong_many_and_parts(self):
        for thing in [(-1, ()), (0, ((0, 1),)), (1, ((0, 1),)), (2, ((0, 2),)), (2,), (2, (), ()), (2, (), None),
                      ((), 2), (-GREAT, ()), (GREAT, ((0, GREAT),)), ("2", ()), (None, ()), (2, None), (2, "")]:
            assert_truth(self, False, is_web(thing), thing)


class IsPairing(unittest.TestCase):
    def test_against_all_sets_of_ties(self):
        for web in [bare(0), bare(2), full(4), ring(5), star(5), (6, ((0, 3), (1, 4), (2, 5)))]:
            pairings = set(all_pairings(web))
            for size in range(5):
                for ties in itertools.combinations(web[1], size):
                    assert_truth(self, ties in pairings, is_pairing(web, ties), (web, ties))

    def test_bent_at_any_depth(self):
        for pairing in [((0, 1),), ((0, 1), (2, 3)), ((1, 2),)]:
            for bent in kind_bends(pairing):
                assert_truth(self, False, is_pairing(line(5), bent), bent)

    def test_wrong_ones(self):
        for thing in [
            ((2, 3), (0, 1)), ((0, 1), (0, 1)), ((1, 0),), ((0, 2),), ((0, 1), (1, 2)), ((4, 5),), ((0, 1), (2, 3, 4)),
            ((0,),), ((),), (0, 1), ((-1, 0),), ((0, 1), (3, 4), None), ((0, 1, 1),),
        ]:
            assert_truth(self, False, is_pairing(line(5), thing), thing)

    def test_odd_things(self):
        for web in (bare(0), line(2), full(9), (GREAT, ((0, 1),))):
            for thing in ODD_THINGS:
                assert_truth(self, exact(thing) == "()", is_pairing(web, thing), thing)

    def test_places_of_forty_figures(self):
        web = (GREAT, ((0, GREAT - 1), (1, 2), (1, GREAT - 2)))
        assert_truth(self, True, is_pairing(web, ((0, GREAT - 1), (1, 2))), web)
        assert_truth(self, False, is_pairing(web, ((1, 2), (1, GREAT - 2))), web)


class MadeWebs(unittest.TestCase):
    def setUp(self):
        self.webs = some_webs() + [read_thirty()]

    def test_neighbours(self):
        for web in self.webs:
            for place in range(web[0]):
                expected = tuple(p for p in range(web[0]) if (min(p, place), max(p, place)) in web[1])
                self.assertEqual(exact(neighbours(web, place)), exact(expected))
        self.assertEqual(neighbours((6, ((0, 3), (1, 3), (3, 4))), 3), (0, 1, 4))

    def choices(self, web):
        if web[0] <= 5:
            sizes = range(web[0] + 1)
            return [places for size in sizes for places in itertools.combinations(range(web[0]), size)]
        source = random.Random(str(web))
        drawn = [tuple(sorted(source.sample(range(web[0]), source.randrange(web[0])))) for again in range(8)]
        return [(), tuple(range(web[0])), (0,), (web[0] - 1,)] + drawn

    def test_web_on_and_without_places(self):
        for web in self.webs:
            for places in self.choices(web):
                others = tuple(p for p in range(web[0]) if p not in places)
                pairs = itertools.combinations(range(len(places)), 2)
                ties = tuple((a, b) for a, b in pairs if (places[a], places[b]) in web[1])
                self.assertEqual(exact(web_on(web, places)), exact((len(places), ties)))
                self.assertEqual(exact(without_places(web, others)), exact((len(places), ties)))

    def test_all_and_none(self):
        for web in self.webs:
            everywhere = tuple(range(web[0]))
            self.assertEqual(without_places(web, ()), web)
            self.assertEqual(web_on(web, everywhere), web)
            self.assertEqual(without_places(web, everywhere), (0, ()))
            self.assertEqual(web_on(web, ()), (0, ()))

    def test_without_tie(self):
        for web in self.webs:
            for k, tie in enumerate(web[1]):
                expected = (web[0], web[1][:k] + web[1][k + 1:])
                self.assertEqual(exact(without_tie(web, tie)), exact(expected))

    def test_renumbered_there_and_back(self):
        source = random.Random(4)
        for web in self.webs:
            numbers = list(range(web[0]))
            source.shuffle(numbers)
            back = tuple(numbers.index(place) for place in range(web[0]))
            told = renumbered(web, tuple(numbers))
            self.assertTrue(is_web(told))
            for p, q in itertools.combinations(range(web[0]), 2):
                called = tuple(sorted((numbers[p], numbers[q])))
                self.assertEqual((p, q) in web[1], called in told[1])
            self.assertEqual(renumbered(told, back), web)
            self.assertEqual(renumbered(web, tuple(range(web[0]))), web)
        # The p-th number is the new name of p, not the other way about.
        self.assertEqual(renumbered((4, ((0, 1),)), (1, 2, 3, 0)), (4, ((1, 2),)))
        self.assertEqual(renumbered((4, ((0, 1), (0, 2))), (3, 0, 2, 1)), (4, ((0, 3), (2, 3))))


class Parts(unittest.TestCase):
    def test_small_webs(self):
        for web in some_webs():
            told = parts(web)
            self.assertEqual(exact(sorted(told)), exact(list(told)))
            self.assertIs(told.__class__, tuple)
            self.assertEqual(sorted(p for part in told for p in part), list(range(web[0])))
            at = {p: part for part in told for p in part}
            for part in told:
                self.assertEqual(exact(part), exact(tuple(sorted(part))))
            for i, j in web[1]:
                self.assertEqual(at[i], at[j])
            for part in told:
                self.assertTrue(self.hangs_together(web, part))

    def hangs_together(self, web, part):
        """Whether no way of splitting the part in two leaves no tie between."""
        for size in range(1, len(part) // 2 + 1):
            for some in itertools.combinations(part, size):
                if not any((i in some) != (j in some) for i, j in web[1] if i in part):
                    return False
        return True

    def test_edges(self):
        self.assertEqual(parts(bare(0)), ())
        self.assertEqual(parts(bare(3)), ((0,), (1,), (2,)))
        self.assertEqual(parts((6, ((0, 4), (1, 3), (2, 3)))), ((0, 4), (1, 2, 3), (5,)))
        self.assertEqual(parts((5, ((0, 4), (1, 4), (1, 3)))), ((0, 1, 3, 4), (2,)))

    def test_long_lines_and_read_webs(self):
        self.assertEqual(parts(line(3000)), (tuple(range(3000)),))
        great = read_web(web_text(line(9999)))
        self.assertEqual(parts(great), (tuple(range(9999)),))
        evens = read_web(web_text((9999, tuple((k, k + 2) for k in range(9997)))))
        self.assertEqual(parts(evens), (tuple(range(0, 9999, 2)), tuple(range(1, 9999, 2))))
        self.assertEqual(parts(read_web("9999")), tuple((k,) for k in range(9999)))
        tree = drawn_tree(random.Random(2), 5000)
        self.assertEqual(parts(tree), (tuple(range(5000)),))


class Unchanged(unittest.TestCase):
    def test_nothing_handed_in_is_changed(self):
        thing = [4, [[0, 1], (2, [3])]]
        assert_unchanged(self, is_web, thing)
        assert_unchanged(self, is_web, (4, [(0, 1)]))
        assert_unchanged(self, is_pairing, line(4), ([0, 1], [[2, 3]]))
        assert_unchanged(self, renumbered, line(4), (3, 1, 2, 0))
        assert_unchanged(self, parts, line(4))


if __name__ == "__main__":
    unittest.main()
