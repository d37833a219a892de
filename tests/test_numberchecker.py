import random
import unittest

from pairtally.counting import count_paper
from pairtally.errors import NoPaper
from pairtally.making import full_web, line_web, ring_web
from pairtally.numberchecker import lets_number
from pairtally.numbering import number_paper
from pairtally.numbers import behind, number_of, pairing_at
from pairtally.pairings import row_of
from tests.support import (
    ODD_THINGS, all_pairings, assert_no_paper, assert_unchanged, bare, exact, full, kind_bends, line, ring, some_webs,
)
from tests.test_numbers import in_order


def pair_of(web):
    return row_of(web), count_paper(web)


def paper_by_hand(web, pairing):
    """Step by step as [49] has it."""
    steps = []
    for i, own in enumerate(pairing):
        ahead = behind(web, pairing[:i])
        steps.append(tuple(pair_of(behind(web, pairing[:i] + (tie,))) for tie in ahead[1] if tie < own))
    return (*pair_of(web), tuple(steps))


WEB = full(5)
PAIRING = ((1, 2), (3, 4))
NUMBER = in_order(WEB).index(PAIRING)
PAPER = paper_by_hand(WEB, PAIRING)


def with_steps(steps):
    return PAPER[:2] + (steps,)


def with_step(i, step):
    steps = PAPER[2]
    return with_steps(steps[:i] + (step,) + steps[i + 1:])


class Right(unittest.TestCase):
    def assert_for_alone(self, web, pairing, number, paper):
        self.assertIs(lets_number(web, pairing, number, paper), True)
        for other in (number - 1, number + 1, -1 - number, number + 10 ** 39):
            assert_no_paper(self, "number", 0, lets_number, web, pairing, other, paper)

    def test_papers_by_hand(self):
        for web in some_webs(most=5, each=3, seed=381):
            for number, pairing in enumerate(in_order(web)):
                self.assert_for_alone(web, pairing, number, paper_by_hand(web, pairing))

    def test_made_papers(self):
        for web in some_webs(most=6, each=3, seed=382):
            for number, pairing in enumerate(in_order(web)):
                paper = number_paper(web, pairing)
                self.assertIs(paper.__class__, tuple)
                self.assert_for_alone(web, pairing, number, paper)

    def test_made_papers_of_nine_places(self):
        source = random.Random(383)
        for web in [web for web in some_webs(each=3, seed=384) if web[0] > 6]:
            many = sum(row_of(web))
            for number in {0, many - 1, source.randrange(many), source.randrange(many)}:
                pairing = pairing_at(web, number)
                self.assert_for_alone(web, pairing, number, number_paper(web, pairing))

    def test_of_none(self):
        for web in (bare(0), bare(9), line(2), full(6)):
            self.assert_for_alone(web, (), 0, number_paper(web, ()))
            self.assert_for_alone(web, (), 0, (*pair_of(web), ()))
            self.assertEqual(exact(number_paper(web, ())[2]), "()")

    def test_told_webs_of_more_places(self):
        for web in (line_web(12), ring_web(12), full_web(12)):
            for number in (1, sum(row_of(web)) // 2, sum(row_of(web)) - 1):
                pairing = pairing_at(web, number)
                self.assert_for_alone(web, pairing, number, number_paper(web, pairing))

    def test_nothing_is_changed(self):
        assert_unchanged(self, number_paper, WEB, PAIRING)
        assert_unchanged(self, lets_number, WEB, PAIRING, NUMBER, PAPER)
        assert_unchanged(self, lets_number, WEB, PAIRING, NUMBER, [list(PAPER[0]), [], []])
        assert_unchanged(self, lets_number, WEB, PAIRING, NUMBER, (PAPER[0], [PAPER[1]], PAPER[2]))


class Wrong(unittest.TestCase):
    def refused(self, word, place, paper, web=WEB, pairing=PAIRING, number=NUMBER):
        assert_no_paper(self, word, place, lets_number, web, pairing, number, paper)

    def test_right_as_it_is(self):
        self.assertIs(lets_number(WEB, PAIRING, NUMBER, PAPER), True)
        self.assertEqual([len(step) for step in PAPER[2]], [4, 0])

    def test_odd_things(self):
        for thing in ODD_THINGS:
            self.refused("shape", 0, thing)
            self.refused("shape", 0, thing, bare(0), (), 0)

    def test_shape(self):
        row, paper, steps = PAPER
        for thing in [
            list(PAPER), PAPER[:2], PAPER + ((),), (PAPER,), (row, steps), PAPER[::-1], (paper, row, steps),
            with_steps(list(steps)), with_steps(()), with_steps(steps[:1]), with_steps(steps + ((),)),
            with_steps(None), with_steps(2), with_steps("ab"), with_step(0, None), with_step(1, []),
            with_step(0, list(steps[0])), with_step(1, 0), with_step(1, (None,)), with_step(1, ((),)),
            with_step(1, (row,)), with_step(1, ([row, paper],)), with_step(1, ((row, paper, paper),)),
            with_step(1, ((row,),)), with_step(1, ((paper, row),)),
        ]:
            self.refused("shape", 0, thing)
        for wrong in [
            (), [1, 10, 15], (1, 10, 0), (1, 0, 15), (0, 10, 15), (True, 10, 15), (1, -10, 15), (1, "10"), None, 1,
            "1", ((1,),), (1, [10]), (0,), (False,), (-1,), (1, None),
        ]:
            self.refused("shape", 0, (wrong, paper, steps))
            self.refused("shape", 0, with_step(1, ((wrong, paper),)))
            self.refused("shape", 0, with_step(0, steps[0][:-1] + ((wrong, steps[0][-1][1]),)))
        for bent in kind_bends(row):
            self.refused("shape", 0, (bent, paper, steps))
        for at, (counts, kept) in enumerate(steps[0]):
            for bent in kind_bends(counts):
                self.refused("shape", 0, with_step(0, steps[0][:at] + ((bent, kept),) + steps[0][at + 1:]))

    def test_as_many_steps_as_ties(self):
        self.refused("shape", 0, PAPER, pairing=((1, 2),))
        self.refused("shape", 0, PAPER, pairing=())
        self.refused("shape", 0, number_paper(WEB, ()))
        self.refused("shape", 0, number_paper(WEB, ((1, 2),)))

    def test_row(self):
        row, paper, steps = PAPER
        for wrong in ODD_THINGS + (paper[:-1], list(paper), count_paper(line(5)), paper + paper[:1], (paper,)):
            self.refused("row", 0, (row, wrong, steps))
        for wrong in ((1, 10, 16), (1, 10), (1, 10, 15, 1), (2, 10, 15)):
            self.refused("row", 0, (wrong, paper, steps))
        self.refused("row", 0, PAPER, web=full(6))
        self.refused("row", 0, (*pair_of(line(5)), steps))

    def test_step(self):
        steps = PAPER[2]
        first = steps[0]
        for step in [
            first[:-1], first[1:], (), first + first[-1:], first[::-1], first[1:2] + first[:1] + first[2:],
            first[:-1] + (pair_of(WEB),), (pair_of(line(3)),) + first[1:], first[:3] + (((1, 2), first[3][1]),),
            first[:3] + ((first[3][0] + (1,), first[3][1]),), first[:3] + ((first[3][0], first[0][1]),),
        ]:
            if exact(step) != exact(first):
                self.refused("step", 0, with_step(0, step))
        for thing in ODD_THINGS:
            for at in range(4):
                self.refused("step", 0, with_step(0, first[:at] + ((first[at][0], thing),) + first[at + 1:]))
        self.refused("step", 1, with_step(1, (pair_of(bare(5)),)))
        self.refused("step", 1, with_step(1, first[:1]))
        # The first step that is wrong.
        self.refused("step", 0, with_steps((first[:-1], first[:1])))

    def test_steps_further_on(self):
        web, pairing = full(6), ((0, 2), (1, 4), (3, 5))
        number = number_of(web, pairing)
        row, paper, steps = paper_by_hand(web, pairing)
        self.assertEqual([len(step) for step in steps], [1, 1, 0])
        self.refused("step", 1, (row, paper, (steps[0], (), steps[2])), web, pairing, number)
        self.refused("step", 1, (row, paper, (steps[0], steps[0], steps[2])), web, pairing, number)
        self.refused("step", 2, (row, paper, (steps[0], steps[1], steps[1])), web, pairing, number)
        self.refused("step", 1, (row, paper, (steps[0], (), steps[1])), web, pairing, number)
        self.refused("step", 0, (row, paper, (steps[1], steps[0], steps[2])), web, pairing, number)
        # A web of other places BEHIND is another one.
        smaller = (pair_of((5, ())),)
        self.refused("step", 1, (row, paper, (steps[0], smaller, steps[2])), web, pairing, number)

    def test_of_another_pairing(self):
        self.refused("step", 0, PAPER, pairing=((0, 1), (2, 3)))
        self.refused("step", 0, PAPER, pairing=((1, 3), (2, 4)))

    def test_number(self):
        for number in (NUMBER - 1, NUMBER + 1, 0, -1, -NUMBER, 10 ** 39):
            self.refused("number", 0, PAPER, number=number)

    def test_order_of_the_words(self):
        row, paper, steps = PAPER
        self.refused("shape", 0, (row, None, (steps[0][:-1], None)), number=0)
        self.refused("row", 0, (row, None, (steps[0][:-1], steps[1])), number=0)
        self.refused("step", 0, (row, paper, (steps[0][:-1], steps[1])), number=0)
        self.refused("number", 0, PAPER, number=0)

    def test_what_is_let_by_is_so(self):
        """Papers of one pairing or web asked of others are let by only for the right number."""
        source = random.Random(385)
        webs = some_webs(most=5, each=2, seed=386)
        let_by = 0
        for again in range(3000):
            web = source.choice(webs)
            other = source.choice((web, web, source.choice(webs)))
            one, two = source.choice(all_pairings(web)), source.choice(all_pairings(other))
            number = number_of(other, two) + source.choice((0, 0, 1, -1))
            try:
                lets_number(web, one, number, paper_by_hand(other, two))
            except NoPaper:
                continue
            let_by += 1
            self.assertEqual(in_order(web)[number], one)
        self.assertGreater(let_by, 50)


if __name__ == "__main__":
    unittest.main()
