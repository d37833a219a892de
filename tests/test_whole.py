"""What the document promises over the whole program, by tests that go through several modules."""

import importlib
import inspect
import itertools
import random
import unittest
from fractions import Fraction

from pairtally.between import lies_between, reach_of
from pairtally.countchecker import lets_count
from pairtally.counting import count_paper
from pairtally.draws import drawn
from pairtally.errors import NoPaper, TooMany
from pairtally.joining import hung, side_by_side
from pairtally.largest import largest_told
from pairtally.largestchecker import lets_largest
from pairtally.likechecker import lets_like
from pairtally.liking import beside, for_rests, like_told
from pairtally.numberchecker import lets_number
from pairtally.numbering import number_paper
from pairtally.numbers import number_of, pairing_at
from pairtally.pairings import pairings, row_of
from pairtally.quotientchecker import lets_quotient
from pairtally.quotients import quotient_paper
from pairtally.rests import rest_row, rest_web
from pairtally.ringchecker import lets_rings
from pairtally.rings import forest_row, ring_paper
from pairtally.rootchecker import lets_roots
from pairtally.roots import root_paper
from pairtally.rows import row_on, row_product, row_sum
from pairtally.sharechecker import lets_share
from pairtally.shares import share_paper
from pairtally.signchecker import lets_signs
from pairtally.signed import signed_of, signed_row
from pairtally.signs import sign_paper
from pairtally.sums import sums_of
from pairtally.teller import Teller
from pairtally.tops import mean, rises_and_falls, tops
from pairtally.walks import folding_by_rows
from pairtally.webs import neighbours, renumbered, without_places, without_tie
from pairtally.weights import share, weighted_row
from tests.support import bare, drawn_web, exact, row_gone_through, some_webs

# By module: its names, each with how many arguments.
INTERFACE = {
    "webs": "is_web 1 is_pairing 2 neighbours 2 without_places 2 web_on 2 without_tie 2 renumbered 2 parts 1",
    "webtexts": "web_text 1 read_web 1",
    "rows": "is_row 1 row_sum 2 row_on 1 row_product 2",
    "pairings": "pairings 2 row_of 1",
    "countchecker": "lets_count 3",
    "counting": "count_paper 1",
    "largestchecker": "lets_largest 2",
    "largest": "largest_told 1",
    "polys": "is_poly 1 is_fraction 1 poly_sum 2 poly_product 2 times 2 derived 1 worth 2",
    "factors": "plain 1 common 2 quotient 2 powers_of 1",
    "signed": "signed_row 2 signed_of 1",
    "rootchecker": "lets_roots 2",
    "roots": "root_paper 2",
    "signchecker": "lets_signs 2 changes 2",
    "signs": "sign_paper 1 below 2 reals 1 root_at 3",
    "between": "lies_between 2 reach_of 1",
    "ways": "ways_from 2 ways_tree 2",
    "ringchecker": "lets_rings 2",
    "rings": "ring_paper 1 forest_row 1",
    "quotientchecker": "lets_quotient 3",
    "quotients": "quotient_paper 2",
    "walks": "closed_walks 3 folds 2 folding 3 folding_by_rows 3",
    "sums": "sums_of 2 poly_of_sums 1 whole_of 1",
    "making": "full_web 1 line_web 1 ring_web 1 fork_web 1 full_row 1 line_row 1 ring_row 1 fork_row 1",
    "joining": "side_by_side 2 with_tie 3 divided 2 hung 1 joined_web 2 lines_web 1 hung_row 2 apart_sets 2",
    "rests": "rest_web 1 rest_row 2 joined_row 4",
    "sided": "sided_web 2 sided_rest 3 sided_row 2 sided_rest_row 3",
    "likechecker": "lets_like 3",
    "liking": "like_told 2 for_rests 1 beside 2",
    "families": "family_pair 2 family_paper 2",
    "tops": "total 1 mean 1 tops 1 rises_and_falls 1 dent 1",
    "weights": "is_weights 2 weight_of 3 weighted_row 2 share 3 bare_share 3",
    "sharechecker": "lets_share 4",
    "shares": "share_paper 2",
    "numbers": "behind 2 number_of 2 pairing_at 2 pairing_by 3",
    "numberchecker": "lets_number 4",
    "numbering": "number_paper 2",
    "draws": "drawn 3",
}
METHODS = {
    ("teller", "Teller"): "__init__ 2 deal 2 take_back 1 many_left 1 counts_left 1 left_with 2 all_dealt 1",
    ("desk", "Desk"): "__init__ 1 say 2",
}


def named(text):
    """Pairs of a name and a number."""
    words = text.split(" ")
    return [(words[k], int(words[k + 1])) for k in range(0, len(words), 2)]


class Interface(unittest.TestCase):
    def test_functions(self):
        for module, text in INTERFACE.items():
            for name, many in named(text):
                told = getattr(importlib.import_module("pairtally." + module), name)
                self.assertEqual(len(inspect.signature(told).parameters), many, name)
                self.assertEqual(told.__module__, "pairtally." + module)

    def test_methods_stand_in_the_class_itself(self):
        for (module, name), text in METHODS.items():
            told = getattr(importlib.import_module("pairtally." + module), name)
            for method, many in named(text):
                self.assertEqual(len(inspect.signature(vars(told)[method]).parameters), many, method)


def let_by(action, *things):
    """Whether a checker lets the things by."""
    try:
        action(*things)
    except NoPaper:
        return False
    return True


class MakersPapers(unittest.TestCase):
    def test_are_let_by(self):
        for web in some_webs(each=3, seed=421):
            row = row_gone_through(web)
            self.assertTrue(let_by(lets_count, web, row, count_paper(web)))
            self.assertEqual(lets_largest(web, largest_told(web)), len(row) - 1)
            self.assertEqual(lets_rings(web, ring_paper(web)) == "ringless", forest_row(web) is not None)
            poly = signed_of(web)
            self.assertTrue(let_by(lets_roots, poly, root_paper(poly, (1, 10))))
            if web[0] > 0:
                self.assertTrue(let_by(lets_signs, poly, sign_paper(poly)))
            self.assertTrue(let_by(lets_like, web, web, like_told(web, web)[1]))
            for tie in web[1][:3]:
                told = share(web, (1,) * len(web[1]), tie)
                self.assertTrue(let_by(lets_share, web, tie, told, share_paper(web, tie)))
            last = pairing_at(web, sum(row) - 1)
            self.assertTrue(let_by(lets_number, web, last, sum(row) - 1, number_paper(web, last)))
            for place in range(min(2, web[0])):
                try:
                    paper = quotient_paper(web, place)
                except TooMany:
                    continue
                self.assertTrue(let_by(lets_quotient, web, place, paper))

    def test_of_other_webs(self):
        """They are let by for other webs only where they are so of these, too."""
        webs = some_webs(most=5, each=2, seed=422)
        for one, other in itertools.product(webs, webs):
            row, paper = row_of(one), count_paper(one)
            self.assertEqual(let_by(lets_count, other, row, paper), one == other)
            if let_by(lets_largest, other, largest_told(one)):
                self.assertEqual(len(largest_told(one)[0]), len(row_of(other)) - 1)
            if let_by(lets_rings, other, ring_paper(one)):
                self.assertEqual(ring_paper(one)[0] == "ringless", forest_row(other) is not None)
            if let_by(lets_roots, signed_of(other), root_paper(signed_of(one), (1, 10))):
                self.assertEqual(signed_of(one), signed_of(other))
            third = webs[len(webs) // 2]
            told = like_told(one, third)
            if told[0] == "like" and let_by(lets_like, other, third, told[1]):
                self.assertEqual(one, other)

    def test_nothing_speaks_against_another(self):
        """Bent count papers and like papers that are let by agree with the rows of going through all."""
        source = random.Random(423)
        webs = some_webs(most=5, each=2, seed=424)
        for again in range(300):
            web, other = source.choice(webs), source.choice(webs)
            joined = count_paper(web) + count_paper(other)
            self.assertTrue(let_by(lets_count, other, row_gone_through(other), joined))
            wrong = tuple(number + 1 for number in row_gone_through(other))
            self.assertFalse(let_by(lets_count, other, wrong, joined))


class TwoWebs(unittest.TestCase):
    def test_all_agree_about_like_rows(self):
        """Rows, signed polys, sums, rests and like_told, of two webs of as many places."""
        source = random.Random(425)
        pairs = []
        for web in some_webs(most=6, each=6, seed=426):
            pairs.append((web, renumbered(web, tuple(source.sample(range(web[0]), web[0])))))
            pairs.append((web, drawn_web(source, web[0], len(web[1]) / max(1, web[0] * (web[0] - 1) // 2))))
        pairs += [((4, ((0, 1), (0, 2), (0, 3))), (4, ((1, 2), (1, 3), (2, 3))))]
        likes = 0
        for one, other in pairs:
            alike = row_gone_through(one) == row_gone_through(other)
            likes += alike
            self.assertEqual(row_of(one) == row_of(other), alike)
            self.assertEqual(signed_of(one) == signed_of(other), alike)
            self.assertEqual(row_of(rest_web(one)) == row_of(rest_web(other)), alike)
            self.assertEqual(row_of(hung(one)) == row_of(hung(other)), alike)
            most = one[0]
            self.assertEqual(sums_of(signed_of(one), most) == sums_of(signed_of(other), most), alike)
            told = like_told(one, other)
            self.assertEqual(told[0], "like" if alike else "unlike")
            if alike:
                self.assertTrue(let_by(lets_like, rest_web(one), rest_web(other), for_rests(told[1])))
                both = side_by_side(one, bare(1)), side_by_side(other, bare(1))
                self.assertTrue(let_by(lets_like, *both, beside(told[1], bare(1))))
        self.assertTrue(20 < likes < len(pairs) - 20)

    def test_side_by_side_and_rests(self):
        webs = some_webs(most=4, each=2, seed=427)
        for one, other in itertools.product(webs, webs):
            self.assertEqual(row_of(side_by_side(one, other)), row_product(row_of(one), row_of(other)))
        for web in some_webs(each=3, seed=428):
            rest = rest_row(web[0], row_of(web))
            self.assertEqual((rest, rest_row(web[0], rest)), (row_of(rest_web(web)), row_of(web)))


class OneWeb(unittest.TestCase):
    def test_ties_and_places_make_up_the_row(self):
        for web in some_webs(most=7, each=3, seed=429):
            row = row_of(web)
            for tie in web[1]:
                made = row_sum(row_of(without_tie(web, tie)), row_on(row_of(without_places(web, tie))))
                self.assertEqual(made, row)
            for place in range(web[0]):
                made = row_of(without_places(web, (place,)))
                for other in neighbours(web, place):
                    made = row_sum(made, row_on(row_of(without_places(web, tuple(sorted((place, other)))))))
                self.assertEqual(made, row)

    def test_roots_and_walks(self):
        for web in some_webs(most=6, each=2, seed=430):
            poly = signed_row(web[0], row_of(web))
            for place in range(web[0]):
                self.assertIs(lies_between(poly, signed_of(without_places(web, (place,)))), True)
            for factor, power, stretches in root_paper(poly, (1, 100)):
                for low, high in stretches:
                    # The stretch holds a root, which lies no farther out than the reach.
                    nearest = min(abs(Fraction(*low)), abs(Fraction(*high)))
                    self.assertTrue(low[0] * high[0] <= 0 or nearest ** 2 <= reach_of(web))
            folded = [folding_by_rows(web, place, 8) for place in range(web[0])]
            for k, told in enumerate(sums_of(poly, 8)):
                self.assertEqual(sum(walks[k] for walks in folded), told)

    def test_tops_and_means(self):
        for web in some_webs(each=3, seed=431):
            row = row_of(web)
            self.assertIs(rises_and_falls(row), True)
            held = sum(Fraction(*share(web, (1,) * len(web[1]), tie)) for tie in web[1])
            self.assertEqual(Fraction(*mean(row)), held)
            self.assertTrue(all(abs(top - held) < 1 for top in tops(row)))

    def test_numbers_draws_and_a_teller(self):
        for web in some_webs(most=5, each=2, seed=432):
            row = row_of(web)
            ones = (1,) * len(web[1])
            self.assertEqual(weighted_row(web, ones), row)
            every = [pairing for size in range(len(row)) for pairing in pairings(web, size)]
            teller = Teller(web)
            many = (len(every) - 1).bit_length()
            for number, pairing in enumerate(every):
                self.assertEqual(exact(pairing_at(web, number)), exact(pairing))
                self.assertEqual(number_of(web, pairing), number)
                self.assertEqual(teller.deal(0), pairing)
                tape = tuple(number >> (many - 1 - k) & 1 for k in range(many))
                self.assertEqual(drawn(web, ones, tape), (pairing, many))
            self.assertEqual(teller.all_dealt(), every)


if __name__ == "__main__":
    unittest.main()
