import random
import unittest

from pairtally.countchecker import lets_count
from pairtally.errors import NoPaper
from pairtally.pairings import row_of
from pairtally.webs import neighbours, parts, renumbered, web_on, without_places, without_tie
from tests.support import (
    ODD_THINGS, assert_no_paper, assert_unchanged, bare, drawn_web, exact, full, kind_bends, line, ring,
    row_gone_through, some_webs, star,
)

BARE = ("bare",)
PARTS = ("parts",)

ONE = (bare(1), (1,), BARE)
TWO = (bare(2), (1,), BARE)
NONE = (bare(0), (1,), BARE)
PAIR = (line(2), (1, 1), ("tie", (0, 1)))
# By each way: bare, a tie, a place, parts, numbers.
MIXED = (
    NONE, ONE, TWO, PAIR,
    (line(3), (1, 2), ("place", 1)),
    ((5, ((0, 1), (2, 3), (3, 4))), (1, 3, 2), PARTS),
    ((5, ((0, 4), (1, 2), (2, 3))), (1, 3, 2), ("numbers", (0, 2, 3, 4, 1))),
)


def drawn_paper(source, web):
    """A paper of the web whose entries go by drawn ways, with the rows of going through all."""
    entries = []

    def enter(one):
        if one in [entry[0] for entry in entries]:
            return
        way, asked = drawn_way(source, one)
        for other in asked:
            enter(other)
        entries.append((one, row_gone_through(one), way))

    enter(web)
    return tuple(entries)


def drawn_way(source, web):
    """A way, and the webs that it asks for: with fewer ties or places, or that Python sorts ahead of this one."""
    if not web[1]:
        return (PARTS, [bare(1)]) if web[0] > 1 and source.random() < 0.5 else (BARE, [])
    if len(parts(web)) > 1:
        return PARTS, [web_on(web, part) for part in parts(web)]
    numbers = tuple(source.sample(range(web[0]), web[0]))
    if renumbered(web, numbers) < web:
        return ("numbers", numbers), [renumbered(web, numbers)]
    if source.random() < 0.5:
        tie = source.choice(web[1])
        return ("tie", tie), [without_tie(web, tie), without_places(web, tie)]
    place = source.randrange(web[0])
    gone = [(place,)] + [tuple(sorted((place, other))) for other in neighbours(web, place)]
    return ("place", place), [without_places(web, places) for places in gone]


class Right(unittest.TestCase):
    def assert_let_by(self, web, row, paper):
        self.assertIs(lets_count(web, row, paper), True)

    def test_each_way(self):
        for k in range(1, len(MIXED) + 1):
            web, row, way = MIXED[k - 1]
            self.assertEqual(row, row_gone_through(web))
            self.assert_let_by(web, row, MIXED[:k])

    def test_edges(self):
        self.assert_let_by(bare(0), (1,), (NONE,))
        self.assert_let_by(bare(0), (1,), ((bare(0), (1,), PARTS),))
        self.assert_let_by(bare(0), (1,), (NONE, (bare(0), (1,), ("numbers", ()))))
        self.assert_let_by(bare(2), (1,), (ONE, (bare(2), (1,), PARTS)))
        self.assert_let_by(bare(2), (1,), (ONE, (bare(2), (1,), ("place", 1))))
        self.assert_let_by(line(2), (1, 1), (NONE, TWO, PAIR, (line(2), (1, 1), PARTS)))
        self.assert_let_by(line(2), (1, 1), (NONE, TWO, PAIR, PAIR, PAIR))
        self.assert_let_by(line(2), (1, 1), (NONE, ONE, (line(2), (1, 1), ("place", 0))))

    def test_drawn_ways(self):
        source = random.Random(11)
        ways = []
        for web in some_webs(most=7, each=10, seed=12):
            paper = drawn_paper(source, web)
            row = row_gone_through(web)
            self.assert_let_by(web, row, paper)
            ways += [entry[2][0] for entry in paper]
            more = row[:-1] + (row[-1] + 1,)
            assert_no_paper(self, "last", -1, lets_count, web, more, paper)
            wrong = paper[:-1] + ((web, more, paper[-1][2]),)
            assert_no_paper(self, "row", len(paper) - 1, lets_count, web, more, wrong)
        for word in ("bare", "tie", "place", "parts", "numbers"):
            self.assertGreater(ways.count(word), 20)

    def test_sixty_places(self):
        web = (60, ((0, 59),))
        paper = ((bare(60), (1,), BARE), (bare(58), (1,), BARE), (web, (1, 1), ("tie", (0, 59))))
        self.assert_let_by(web, (1, 1), paper)
        numbers = tuple(range(60))[::-1]
        self.assert_let_by(web, (1, 1), paper + ((web, (1, 1), ("numbers", numbers)),))
        lines = [NONE, ONE] + [(line(n), row_of(line(n)), ("place", 0)) for n in range(2, 61)]
        self.assert_let_by(line(60), row_of(line(60)), tuple(lines))


class Wrong(unittest.TestCase):
    def refused(self, word, place, paper, web=MIXED[-1][0], row=MIXED[-1][1]):
        assert_no_paper(self, word, place, lets_count, web, row, paper)

    def test_no_paper_at_all(self):
        for thing in ODD_THINGS:
            if isinstance(thing, tuple) and thing:
                self.refused("shape", 0, thing)
            else:
                self.refused("shape", -1, thing)
        self.refused("shape", -1, list(MIXED))

    def test_entries_bent_at_any_depth(self):
        for k, entry in enumerate(MIXED):
            for bent in kind_bends(entry):
                self.refused("shape", k, MIXED[:k] + (bent,) + MIXED[k + 1:])

    def test_entries_of_wrong_shape(self):
        web = line(3)
        for way in [
            ("bar",), (), ("bare", 0), ("parts", ()), ("tie",), ("place",), ("numbers",), ("tie", (0, 1), 0),
            ("place", 0, 0), ("numbers", (0, 1, 2), 0), ("tie", (0, 2)), ("tie", (1, 0)), ("tie", (2, 3)), ("tie", 0),
            ("tie", (0, 1, 2)), ("tie", (0,)), ("tie", ()), ("tie", ((0, 1),)), ("place", -1), ("place", 3),
            ("place", (0,)), ("numbers", (0, 1)), ("numbers", (0, 1, 2, 3)), ("numbers", (0, 1, 1)),
            ("numbers", (1, 2, 3)), ("numbers", (-1, 0, 1)), ("numbers", ()), ("numbers", 0), ("Bare",), ("bare ",),
            ("tie", (False, 1)), ("tie", (0, True)), ("place", False), ("numbers", (0, True, 2)), ("side", 0),
            ("place", "0"), (None,), (0,), (("bare",),), "bare", "tie", ["bare"],
        ]:
            self.refused("shape", 0, ((web, (1, 2), way),))
            self.refused("shape", 2, (NONE, ONE, (web, (1, 2), way), None))
        for row in [(), (0,), (1, 0), (-1,), (1, -1, 1), (True,), [1], None, 1, ((1,),)]:
            self.refused("shape", 0, ((bare(1), row, BARE),))
        for thing in [(-1, ()), (2, ((1, 0),)), (2, ((0, 2),)), (3, ((1, 2), (0, 1))), (True, ()), (2, ([0, 1],)), 2]:
            self.refused("shape", 0, ((thing, (1,), BARE),))
        for entry in [(bare(1), (1,)), (bare(1), (1,), BARE, None), ((1,), bare(1), BARE), ()]:
            self.refused("shape", 0, (entry,))

    def test_sixty_one_places(self):
        self.refused("shape", 0, ((bare(61), (1,), BARE),))
        self.refused("shape", 1, ((bare(60), (1,), BARE), (bare(61), (1,), BARE)))
        self.refused("shape", 0, (((10 ** 39), (1,), BARE),))
        self.refused("shape", 0, (((10 ** 39, ()), (1,), ("numbers", ())),))
        self.refused("last", -1, ((bare(60), (1,), BARE),), bare(61), (1,))

    def test_lacks(self):
        self.refused("lacks", 0, ((line(2), (1, 1), BARE),))
        self.refused("lacks", 0, ((line(2), (1,), BARE),))
        # Each entry that is taken out lacks at the first entry that asks for its web.
        for gone, lacking in ((0, 2), (2, 2), (1, 3), (3, 4), (4, 4), (5, 5)):
            self.refused("lacks", lacking, MIXED[:gone] + MIXED[gone + 1:])
        self.refused("lacks", 1, (TWO, PAIR, NONE))
        self.refused("lacks", 1, (NONE, PAIR, TWO))
        self.refused("lacks", 0, ((line(2), (1, 1), PARTS),))
        self.refused("lacks", 0, ((line(2), (1, 1), ("numbers", (1, 0))),))
        self.refused("lacks", 2, (NONE, TWO, (line(2), (1, 1), ("place", 0))))
        self.refused("lacks", 1, (ONE, (line(2), (1, 1), ("place", 0))))
        self.refused("lacks", 0, ((bare(2), (1,), PARTS),))
        self.refused("lacks", 0, ((bare(1), (1,), ("place", 0)),))
        self.refused("lacks", 0, ((bare(0), (1,), ("numbers", ())),))

    def test_row(self):
        self.refused("row", 0, ((bare(1), (2,), BARE),))
        self.refused("row", 0, ((bare(1), (1, 1), BARE),))
        self.refused("row", 0, ((bare(0), (2,), PARTS),))
        for k, (web, row, way) in enumerate(MIXED):
            for other in [row[:-1] + (row[-1] + 1,), row + (1,), (2,) + row[1:], (0,) + row]:
                self.refused("row", k, MIXED[:k] + ((web, other, way),) + MIXED[k + 1:])

    def test_last(self):
        web, row, way = MIXED[-1]
        self.refused("last", -1, MIXED, web, (1, 3, 3))
        self.refused("last", -1, MIXED, web, (1, 3))
        self.refused("last", -1, MIXED, MIXED[-2][0], row)
        self.refused("last", -1, MIXED[:-1])
        self.refused("last", -1, MIXED + (NONE,))
        self.refused("last", -1, (ONE,), bare(2), (1,))

    def test_order_of_the_words(self):
        lacks = (full(3), (1, 3), ("place", 0))
        row = (bare(1), (7,), BARE)
        self.refused("shape", 3, (row, lacks, NONE, "x", 4))
        self.refused("row", 0, (row, lacks))
        self.refused("lacks", 0, (lacks, row))
        self.refused("row", 1, (NONE, row, lacks))
        self.refused("lacks", 0, ((line(2), (9, 9), ("place", 0)),))
        self.refused("lacks", 1, (NONE, (line(2), (9, 9), BARE)))

    def test_nothing_is_changed(self):
        assert_unchanged(self, lets_count, line(2), (1, 1), [[line(2), [1, 1], ["bare"]]])
        assert_unchanged(self, lets_count, line(2), (1, 1), ((line(2), [1, 1], ("tie", [0, 1])),))
        assert_unchanged(self, lets_count, MIXED[-1][0], MIXED[-1][1], MIXED)


def is_let_by(paper):
    try:
        return lets_count(paper[-1][0], paper[-1][1], paper)
    except NoPaper:
        return False


class Soundness(unittest.TestCase):
    def test_what_is_let_by_is_so(self):
        """Right papers with rows or webs changed anywhere are let by only for right rows."""
        source = random.Random(21)
        let_by = 0
        for web in some_webs(most=6, each=4, seed=22):
            paper = drawn_paper(source, web)
            for again in range(6):
                k = source.randrange(len(paper))
                one, row, way = paper[k]
                other = drawn_web(source, one[0], 0.5) if source.random() < 0.3 else one
                more = tuple(number + source.choice((0, 0, 1)) for number in row)
                bent = paper[:k] + ((other, more, way),) + paper[k + 1:]
                if is_let_by(bent):
                    let_by += 1
                    self.assertEqual(bent[-1][1], row_gone_through(bent[-1][0]))
        self.assertGreater(let_by, 5)


if __name__ == "__main__":
    unittest.main()
