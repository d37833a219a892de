import random
import unittest

from pairtally.counting import count_paper
from pairtally.errors import NoPaper
from pairtally.joining import side_by_side
from pairtally.likechecker import lets_like
from pairtally.pairings import row_of
from pairtally.rests import rest_web
from pairtally.webs import neighbours, parts, renumbered, web_on, without_places, without_tie
from tests.support import (
    ODD_THINGS, assert_no_paper, assert_unchanged, bare, drawn_web, exact, full, kind_bends, line, ring,
    row_gone_through, some_webs, star,
)

BENT = (3, ((0, 2), (1, 2)))
NONE = (bare(0), bare(0), ("same", ()))
ONE = (bare(1), bare(1), ("same", (0,)))
TWO = (line(2), line(2), ("same", (1, 0)))
STAR = star(4)
TRIANGLE = (4, ((1, 2), (1, 3), (2, 3)))


def rows_way(one, other):
    return ("rows", row_of(one), count_paper(one), count_paper(other))


# By each way, leaning on those ahead.
MIXED = (
    (line(3), BENT, ("same", (0, 2, 1))),
    (BENT, line(3), ("turned",)),
    (line(3), line(3), ("by", BENT)),
    (rest_web(BENT), rest_web(line(3)), ("rest",)),
    ONE,
    (ring(3), ring(3), ("tie", (0, 2), (0, 1))),
    (side_by_side(line(3), bare(1)), side_by_side(BENT, bare(1)), ("side", 3, 3)),
    ((4, ((0, 1), (1, 2))), (4, ((1, 3), (2, 3))), ("parts", (1, 0))),
    TWO,
    (line(4), (4, ((0, 2), (0, 3), (1, 2))), ("place", 3, 3, (0,))),
    (STAR, TRIANGLE, rows_way(STAR, TRIANGLE)),
)
# By the number of an entry: the first one that leans on it.
LEANING = {0: 1, 1: 2, 4: 5, 8: 9}
# The numbers of the entries that lean on others.
LEANS = (1, 2, 3, 5, 6, 7, 9)


def same_entries(*pairs):
    """Right entries, each for two webs of one row, that lean on nothing."""
    return tuple((one, other, rows_way(one, other)) for one, other in pairs)


class LikeCase(unittest.TestCase):
    def let_by(self, paper):
        one, other, way = paper[-1]
        self.assertEqual(row_gone_through(one), row_gone_through(other))
        self.assertIs(lets_like(one, other, paper), True)

    def refused(self, word, place, paper, one=line(3), other=BENT):
        assert_no_paper(self, word, place, lets_like, one, other, paper)

    def refused_last(self, word, paper):
        """Sees that the last entry is refused, and all would be right without it."""
        for k in range(1, len(paper)):
            self.assertIs(lets_like(*paper[k - 1][:2], paper[:k]), True)
        self.refused(word, len(paper) - 1, paper, *paper[-1][:2])


class Right(LikeCase):
    def test_each_way(self):
        for k in range(1, len(MIXED) + 1):
            self.let_by(MIXED[:k])

    def test_ways_that_lean_on_nothing(self):
        for k in (0, 4, 8, 10):
            self.let_by((MIXED[k],))

    def test_no_places(self):
        self.let_by((NONE,))
        self.let_by(((bare(0), bare(0), ("parts", ())),))
        self.let_by((NONE, (bare(0), bare(0), ("side", 0, 0))))
        self.let_by((NONE, (bare(0), bare(0), ("rest",))))
        self.let_by((NONE, (bare(0), bare(0), ("turned",))))
        self.let_by((NONE, (bare(0), bare(0), ("by", bare(0)))))
        self.let_by(((bare(0), bare(0), rows_way(bare(0), bare(0))),))
        self.let_by(((bare(0), bare(4), rows_way(bare(0), bare(4))),))

    def test_same(self):
        source = random.Random(341)
        for web in some_webs(each=3, seed=342):
            numbers = tuple(source.sample(range(web[0]), web[0]))
            self.let_by(((web, renumbered(web, numbers), ("same", numbers)),))

    def test_ties_and_places_of_unlike_webs(self):
        source = random.Random(343)
        for one, other in [(STAR, TRIANGLE), (line(5), side_by_side(line(2), ring(3))), (ring(4), ring(4))]:
            self.assertEqual(row_gone_through(one), row_gone_through(other))
            found = 0
            for a in one[1]:
                for b in other[1]:
                    asked = [(without_tie(one, a), without_tie(other, b)),
                             (without_places(one, a), without_places(other, b))]
                    if all(row_of(left) == row_of(right) for left, right in asked):
                        self.let_by(same_entries(*asked) + ((one, other, ("tie", a, b)),))
                        found += 1
            self.assertGreater(found, 0)
        for web in some_webs(most=6, each=2, seed=344):
            numbers = tuple(source.sample(range(web[0]), web[0]))
            other = renumbered(web, numbers)
            for p in range(web[0]):
                beside = neighbours(web, p)
                order = tuple(numbers[u] for u in beside)
                gone = [(p,)] + [(p, u) for u in beside]
                asked = [(without_places(web, places), without_places(other, tuple(numbers[q] for q in places)))
                         for places in gone]
                self.let_by(same_entries(*asked) + ((web, other, ("place", p, numbers[p], order)),))

    def test_webs_of_unlike_many_places(self):
        """By place, parts, side and tie the two may have unlike many places, too."""
        ahead = same_entries((line(2), (5, ((0, 4),))), (bare(1), bare(3)), (bare(0), bare(1)))
        self.let_by(ahead + ((side_by_side(line(2), bare(1)), side_by_side((5, ((0, 4),)), bare(3)), ("side", 2, 5)),))
        ahead = same_entries((bare(2), bare(3)), (bare(0), bare(1)))
        self.let_by(ahead + ((line(2), (3, ((0, 2),)), ("tie", (0, 1), (0, 2))),))
        ahead = same_entries((bare(1), bare(2)), (bare(0), bare(1)))
        self.let_by(ahead + ((line(2), (3, ((0, 2),)), ("place", 1, 0, (2,))),))
        self.let_by(ahead + ((bare(2), bare(3), ("place", 1, 2, ())),))
        self.let_by(same_entries((bare(0), bare(2))) + ((bare(2), bare(0), ("turned",)),))

    def test_parts_of_all_orders(self):
        one, other = side_by_side(line(2), ring(3)), side_by_side(ring(3), line(2))
        ahead = same_entries((line(2), line(2)), (ring(3), ring(3)))
        self.let_by(ahead + ((one, other, ("parts", (1, 0))),))
        self.let_by(ahead + ((one, one, ("parts", (0, 1))),))
        self.let_by(same_entries((bare(1), bare(1))) + ((bare(3), bare(3), ("parts", (2, 0, 1))),))

    def test_side_at_both_ends(self):
        web = ring(3)
        ahead = same_entries((web, web), (bare(0), bare(0)))
        self.let_by(ahead + ((web, web, ("side", 0, 0)),))
        self.let_by(ahead + ((web, web, ("side", 3, 3)),))
        self.let_by(same_entries((bare(0), web[:1] + ((),)), (bare(3), bare(0))) + ((bare(3), bare(3), ("side", 0, 3)),))

    def test_by_one_of_both(self):
        ahead = (MIXED[0], MIXED[1])
        self.let_by(same_entries((line(3), line(3))) + ahead + ((line(3), BENT, ("by", line(3))),))
        self.let_by(same_entries((BENT, BENT)) + ahead + ((line(3), BENT, ("by", BENT)),))

    def test_an_entry_again(self):
        self.let_by(MIXED[:1] * 3)
        self.let_by(MIXED + MIXED)
        # What stands ahead may be the entry's own webs.
        self.let_by((MIXED[0], MIXED[1], (line(3), BENT, ("turned",))))

    def test_sixty_places(self):
        one, other = (60, ((0, 59),)), (60, ((1, 30),))
        numbers = tuple({0: 1, 1: 0, 59: 30, 30: 59}.get(k, k) for k in range(60))
        same = (one, other, ("same", numbers))
        self.let_by((same,))
        self.let_by((same, (other, one, ("turned",)), (one, one, ("by", other))))
        paper = (same, (rest_web(one), rest_web(other), ("rest",)))
        self.assertIs(lets_like(rest_web(one), rest_web(other), paper), True)
        same = (one, one, ("same", tuple(range(60))))
        self.let_by((same, (bare(0), bare(0), ("same", ())), (one, one, ("side", 60, 60))))


class Shape(LikeCase):
    def test_odd_things(self):
        for thing in ODD_THINGS:
            self.refused("shape", -1, thing)
        self.refused("shape", -1, list(MIXED))
        self.refused("shape", -1, MIXED[0])

    def test_no_triples(self):
        web, way = bare(1), ("same", (0,))
        for entry in [
            (), (web,), (web, web), (web, web, way, None), (web, way, web), (web, web, list(way)), [web, web, way],
            (web, web, None), (web, web, "same"), (web, None, way), (None, web, way), (web, (True, ()), way),
            ((True, ()), web, way), (web, [1, ()], way), ((1, []), web, way), (web, (2, ([0, 1],)), way),
            ((2, ((1, 0),)), web, way), (web, (-1, ()), way), (web, (2, ((0, 2),)), way), (web, 1, way), None, "same",
        ]:
            self.refused("shape", -1, (entry,))
            # Asked of all entries, ahead of all else.
            self.refused("shape", -1, ((web, web, ("no",)), entry))
            self.refused("shape", -1, (entry, (web, web, ("no",))))
            self.refused("shape", -1, MIXED + (entry,))

    def test_webs_bent_at_any_depth(self):
        for k, (one, other, way) in enumerate(MIXED):
            for bent in kind_bends(one):
                self.refused("shape", -1, MIXED[:k] + ((bent, other, way),) + MIXED[k + 1:])
            for bent in kind_bends(other):
                self.refused("shape", -1, MIXED[:k] + ((one, bent, way),) + MIXED[k + 1:])

    def test_sixty_one_places(self):
        same = ("same", tuple(range(61)))
        self.refused("shape", -1, ((bare(61), bare(61), same),), bare(61), bare(61))
        self.refused("shape", -1, ((bare(60), bare(61), same),), bare(60), bare(61))
        self.refused("shape", -1, ((bare(61), bare(60), same),), bare(61), bare(60))
        self.refused("shape", -1, (((10 ** 39, ()), bare(60), same),))
        right = (bare(60), bare(60), ("same", tuple(range(60))))
        self.assertIs(lets_like(bare(60), bare(60), (right,)), True)
        self.refused("last", -1, (right,), bare(61), bare(60))
        self.refused("last", -1, (right,), bare(60), bare(61))
        self.refused("last", -1, (right,), bare(61), bare(61))


WRONG_WAYS = (
    (), ("Same", (0,)), ("sames", (0,)), ("",), (None,), (0,), (("same",), (0,)), (["same"], (0,)), ("bare",),
    ("numbers", (0,)), ("same",), ("same", (0,), 0), ("same", 0), ("same", [0]), ("same", (False,)), ("same", ("0",)),
    ("same", ((0,),)), ("same", None), ("tie",), ("tie", (0, 1)), ("tie", (0, 1), (0, 1), 0), ("tie", 0, 1),
    ("tie", (0, 1), [0, 1]), ("tie", [0, 1], (0, 1)), ("tie", (0,), (0, 1)), ("tie", (0, 1), (0, 1, 2)),
    ("tie", (0, 1), (False, 1)), ("tie", (0, True), (0, 1)), ("tie", (), ()), ("tie", ("0", 1), (0, 1)),
    ("place",), ("place", 0), ("place", 0, 0), ("place", 0, 0, (), 0), ("place", False, 0, ()), ("place", 0, False, ()),
    ("place", 0, 0, []), ("place", 0, 0, 0), ("place", 0, 0, (True,)), ("place", "0", 0, ()), ("place", 0, None, ()),
    ("place", 0, (0,), ()), ("place", 0, 0, ((0,),)), ("parts",), ("parts", 0), ("parts", [0]), ("parts", (0,), 0),
    ("parts", (False,)), ("parts", ("0",)), ("side",), ("side", 0), ("side", 0, 0, 0), ("side", False, 0),
    ("side", 0, False), ("side", True, True), ("side", (0,), (0,)), ("side", "0", 0), ("side", 0, None),
    ("rest", 0), ("rest", ()), ("rest", None), ("turned", 0), ("turned", ()), ("turned", "turned"), ("by",),
    ("by", bare(1), bare(1)), ("by", 1), ("by", [1, ()]), ("by", (True, ())), ("by", (1, [])), ("by", (-1, ())),
    ("by", (2, ((1, 0),))), ("by", bare(61)), ("by", (10 ** 39, ())), ("by", None), ("by", "1"), ("rows",),
    ("rows", (1,)), ("rows", (1,), ()), ("rows", (1,), (), (), ()), ("rows", (), (), ()), ("rows", [1], (), ()),
    ("rows", (1, 0), (), ()), ("rows", (-1,), (), ()), ("rows", (True,), (), ()), ("rows", 1, (), ()),
    ("rows", ("1",), (), ()), ("rows", None, None, None), ("rows", (0,), (), ()),
)


class Ways(LikeCase):
    def test_kinds(self):
        for way in WRONG_WAYS:
            for one, other in ((bare(1), bare(1)), (bare(0), bare(0)), (line(2), line(2)), (line(3), BENT)):
                self.refused("way", 0, ((one, other, way),), one, other)
                self.refused("way", 2, (MIXED[0], MIXED[1], (one, other, way)), one, other)

    def test_bent_at_any_depth(self):
        for k, (one, other, way) in enumerate(MIXED[:-1]):
            for bent in kind_bends(way):
                if isinstance(bent, tuple):
                    self.refused("way", k, MIXED[:k] + ((one, other, bent),) + MIXED[k + 1:])
                else:
                    self.refused("shape", -1, MIXED[:k] + ((one, other, bent),) + MIXED[k + 1:])

    def test_rows_bent(self):
        one, other, (word, row, a, b) = MIXED[-1]
        for bent in kind_bends(row):
            self.refused("way", 0, ((one, other, (word, bent, a, b)),))
        for bent in list(kind_bends(a))[::7] + list(ODD_THINGS):
            self.refused("entry", 0, ((one, other, (word, row, bent, b)),))
        for bent in list(kind_bends(b))[::7] + list(ODD_THINGS):
            self.refused("entry", 0, ((one, other, (word, row, a, bent)),))

    def test_other_numbers_are_right_by_kind(self):
        """Whole numbers that can't be so are no other kind: the entry is refused."""
        for one, other, way in [
            (line(2), line(2), ("same", ())), (line(2), line(2), ("same", (0, -1))),
            (line(2), line(2), ("same", (0, 10 ** 39))), (line(2), line(2), ("tie", (0, 5), (-1, 10 ** 39))),
            (line(2), line(2), ("place", -1, 10 ** 39, (10 ** 39,))), (line(2), line(2), ("parts", (7,))),
            (line(2), line(2), ("side", -1, 10 ** 39)), (line(2), line(2), ("by", bare(60))),
            (line(2), line(2), ("rows", (10 ** 39,), None, None)),
        ]:
            self.refused("entry", 0, ((one, other, way),), one, other)


class Entries(LikeCase):
    def test_same(self):
        for one, other, numbers in [
            (line(3), BENT, (0, 1, 2)), (line(3), BENT, (2, 1, 0)), (line(3), BENT, (0, 2)), (line(3), BENT, (0, 2, 1, 3)),
            (line(3), BENT, (0, 2, 2)), (line(3), BENT, (0, 2, -1)), (line(3), BENT, (0, 2, 3)), (line(3), BENT, ()),
            (line(3), ring(3), (0, 2, 1)), (ring(3), BENT, (0, 2, 1)), (line(3), line(2), (0, 1, 2)),
            (bare(2), bare(3), (0, 1)), (bare(2), bare(3), (0, 2)), (bare(3), bare(2), (0, 1)), (bare(2), bare(3), (0, 1, 2)),
            (bare(3), bare(2), (0, 1, 2)), (bare(3), bare(2), (0, 1, 1)), (bare(1), bare(0), ()), (bare(0), bare(1), ()),
            (bare(0), bare(0), (0,)), (line(3), (4, BENT[1]), (0, 2, 1)),
        ]:
            self.refused_last("entry", ((one, other, ("same", numbers)),))
        # The numbers go from the one to the other, not back.
        turn = (1, 2, 3, 0)
        web = (4, ((0, 1), (1, 2)))
        self.let_by(((web, renumbered(web, turn), ("same", turn)),))
        self.refused_last("entry", ((renumbered(web, turn), web, ("same", turn)),))

    def test_tie(self):
        one, other = ring(3), ring(3)
        untied, unplaced = MIXED[0], ONE
        self.let_by((untied, unplaced, (one, other, ("tie", (0, 2), (0, 1)))))
        for a, b in [
            ((0, 1), (0, 1)), ((0, 2), (0, 2)), ((2, 0), (0, 1)), ((0, 2), (1, 0)), ((0, 3), (0, 1)), ((0, 2), (0, 3)),
            ((0, 0), (0, 1)), ((0, 2), (-1, 0)), ((0, 1), (0, 2)),
        ]:
            self.refused_last("entry", (untied, unplaced, (one, other, ("tie", a, b))))
        self.refused_last("entry", (untied, (one, other, ("tie", (0, 2), (0, 1)))))
        self.refused_last("entry", (unplaced, (one, other, ("tie", (0, 2), (0, 1)))))
        # Entries that stand for the two in the other order are none for them.
        turned = same_entries((BENT, line(3)))
        self.refused_last("entry", turned + (unplaced, (one, other, ("tie", (0, 2), (0, 1)))))
        two = same_entries((bare(0), bare(3)), (bare(5), bare(2)))
        self.refused_last("entry", two + ((line(2), (5, ((0, 1),)), ("tie", (0, 1), (0, 1))),))
        # Ties that only the other web has.
        ahead = same_entries((bare(2), bare(3)), (bare(0), bare(1)))
        self.refused_last("entry", ahead + ((bare(2), (3, ((0, 1),)), ("tie", (0, 1), (0, 1))),))
        self.refused_last("entry", ahead + (((2, ((0, 1),)), bare(3), ("tie", (0, 1), (0, 1))),))

    def test_place(self):
        one, other, way = MIXED[9]
        ahead = (MIXED[0], TWO)
        self.let_by(ahead + (MIXED[9],))
        for way in [
            ("place", 4, 3, (0,)), ("place", 3, 4, (0,)), ("place", -1, 3, (0,)), ("place", 3, -1, (0,)),
            ("place", 3, 3, ()), ("place", 3, 3, (0, 0)), ("place", 3, 3, (1,)), ("place", 3, 3, (3,)),
            ("place", 3, 3, (-4,)), ("place", 2, 3, (0,)), ("place", 3, 0, (3,)), ("place", 3, 0, (2, 3)),
            ("place", 1, 3, (0,)), ("place", 1, 3, (0, 0)), ("place", 3, 1, (2,)),
        ]:
            self.refused_last("entry", ahead + ((one, other, way),))
        self.refused_last("entry", (MIXED[0], MIXED[9]))
        self.refused_last("entry", (TWO, MIXED[9]))
        # What is no place of a web has no neighbours there, and leaving it out would leave the web as it is.
        alone = same_entries((bare(1), bare(1)), (bare(2), bare(1)), (bare(1), bare(2)), (bare(2), bare(2)))
        self.let_by(alone + ((bare(2), bare(2), ("place", 1, 0, ())),))
        for p, q in ((2, 0), (-1, 0), (0, 2), (0, -1), (2, 2), (-1, 2)):
            self.refused_last("entry", alone + ((bare(2), bare(2), ("place", p, q, ())),))
        # Neighbour by neighbour: the one's place 1 has its end first, the other's last.
        one, other, order = line(5), (5, ((0, 1), (0, 3), (1, 4), (2, 3))), (4, 0)
        asked = [(without_places(one, (1,)), without_places(other, (1,)))]
        asked += [(without_places(one, (0, 1)), without_places(other, (1, 4)))]
        asked += [(without_places(one, (1, 2)), without_places(other, (0, 1)))]
        entries = same_entries(*asked)
        self.let_by(entries + ((one, other, ("place", 1, 1, order)),))
        self.refused_last("entry", entries + ((one, other, ("place", 1, 1, order[::-1])),))
        for k in range(3):
            self.refused_last("entry", entries[:k] + entries[k + 1:] + ((one, other, ("place", 1, 1, order)),))

    def test_parts(self):
        one, other = side_by_side(line(2), ring(3)), side_by_side(ring(3), line(2))
        ahead = same_entries((line(2), line(2)), (ring(3), ring(3)))
        for order in ((0, 1), (1,), (), (1, 0, 0), (1, 1), (0, 0), (1, 2), (-1, 0), (1, -2), (1, 0, 2)):
            self.refused_last("entry", ahead + ((one, other, ("parts", order)),))
        for k in range(2):
            self.refused_last("entry", ahead[k:k + 1] + ((one, other, ("parts", (1, 0))),))
        # Of unlike many parts, the one's or the other's more.
        ahead = same_entries((bare(1), bare(1)))
        for order in ((0,), (0, 1), (0, 1, 2), (0, 0)):
            self.refused_last("entry", ahead + ((bare(2), bare(1), ("parts", order)),))
            self.refused_last("entry", ahead + ((bare(1), bare(2), ("parts", order)),))
        self.refused_last("entry", (NONE, (bare(1), bare(0), ("parts", ()))))
        self.refused_last("entry", (NONE, (bare(0), bare(1), ("parts", (0,)))))
        # The order goes from the one's parts to the other's, not back.
        three = side_by_side(side_by_side(line(2), line(3)), ring(3))
        turn = side_by_side(side_by_side(ring(3), line(2)), line(3))
        ahead = same_entries((line(2), line(2)), (line(3), line(3)), (ring(3), ring(3)))
        self.let_by(ahead + ((three, turn, ("parts", (1, 2, 0))),))
        self.refused_last("entry", ahead + ((three, turn, ("parts", (2, 0, 1))),))

    def test_side(self):
        one, other = MIXED[6][:2]
        ahead = (MIXED[0], ONE, NONE) + same_entries((one, other), (bare(0), bare(1)), (bare(1), bare(0)))
        self.let_by(ahead + ((one, other, ("side", 3, 3)),))
        for i, j in ((3, 4), (4, 3), (2, 3), (3, 2), (1, 1), (0, 3), (3, 0), (-1, 3), (3, -1), (5, 4), (4, 5), (-1, -1)):
            self.refused_last("entry", ahead + ((one, other, ("side", i, j)),))
        self.refused_last("entry", (MIXED[0], (one, other, ("side", 3, 3))))
        self.refused_last("entry", (ONE, (one, other, ("side", 3, 3))))
        # A tie goes across, of the one, of the other, of both.
        plain = same_entries((line(2), line(2)))
        four = (4, ((0, 1), (2, 3)))
        self.let_by(plain + ((four, four, ("side", 2, 2)),))
        for tie in ((0, 2), (0, 3), (1, 2), (1, 3)):
            more = (4, tuple(sorted(four[1] + (tie,))))
            self.refused_last("entry", plain + ((more, four, ("side", 2, 2)),))
            self.refused_last("entry", plain + ((four, more, ("side", 2, 2)),))
            self.refused_last("entry", plain + ((more, more, ("side", 2, 2)),))

    def test_rest(self):
        self.refused_last("entry", (MIXED[0], (rest_web(BENT), rest_web(line(3)), ("rest",))))
        self.refused_last("entry", (MIXED[0], (line(3), BENT, ("rest",))))
        self.refused_last("entry", ((line(3), BENT, ("rest",)),))
        # As many places: rests of like webs of unlike many are unlike.
        self.refused_last("entry", same_entries((bare(2), bare(3))) + ((full(2), full(3), ("rest",)),))
        self.refused_last("entry", same_entries((bare(0), bare(1))) + ((bare(0), bare(1), ("rest",)),))
        self.refused_last("entry", same_entries((bare(1), bare(0))) + ((bare(1), bare(0), ("rest",)),))

    def test_turned_and_by(self):
        self.refused_last("entry", (MIXED[0], (line(3), BENT, ("turned",))))
        self.refused_last("entry", ((line(3), line(3), ("turned",)),))
        self.refused_last("entry", (MIXED[0], (line(3), line(3), ("by", BENT))))
        self.refused_last("entry", same_entries((BENT, line(3))) + ((line(3), line(3), ("by", BENT)),))
        self.refused_last("entry", MIXED[:2] + ((line(3), line(3), ("by", line(3))),))
        self.refused_last("entry", MIXED[:2] + ((line(3), line(3), ("by", bare(60))),))
        self.refused_last("entry", ((line(3), BENT, ("by", BENT)),))
        three = (BENT, line(3), (3, ((0, 1), (0, 2))))
        ahead = same_entries((three[0], three[1]), (three[2], three[1]))
        self.refused_last("entry", ahead + ((three[0], three[2], ("by", three[1])),))

    def test_rows(self):
        one, other, (word, row, a, b) = MIXED[10]
        for way in [
            (word, row, b, a), (word, row, a, a), (word, row, b, b), (word, (1, 3, 1), a, b), (word, (1, 4), a, b),
            (word, row, a, None), (word, row, None, b), (word, row, a[:-1], b), (word, row, a, b[:-1]),
            (word, row, a, list(b)), (word, row, list(a), b), (word, row, (), ()), (word, row, a, 10 ** 39),
        ]:
            self.refused_last("entry", ((one, other, way),))
        # Right papers of unlike rows.
        self.refused_last("entry", ((line(3), line(2), ("rows", (1, 2), count_paper(line(3)), count_paper(line(2)))),))
        self.refused_last("entry", ((line(3), line(2), ("rows", (1, 1), count_paper(line(3)), count_paper(line(2)))),))

    def test_entries_taken_out(self):
        for gone, lacking in LEANING.items():
            self.refused("entry", lacking - 1, MIXED[:gone] + MIXED[gone + 1:])

    def test_leaning_on_oneself_or_behind(self):
        for k in LEANS:
            self.refused("entry", 0, (MIXED[k],) + MIXED[:k])
            self.refused("entry", 0, (MIXED[k],))
        web = ring(3)
        self.refused("entry", 0, ((web, web, ("turned",)), (web, web, ("turned",))))
        self.refused("entry", 0, ((web, web, ("by", web)),) * 2)
        ring_of_two = ((line(3), BENT, ("turned",)), (BENT, line(3), ("turned",)))
        self.refused("entry", 0, ring_of_two)
        self.refused("entry", 0, ((line(3), line(2), ("turned",)), (line(2), line(3), ("turned",))))
        self.refused("entry", 0, ((web, web, ("side", 3, 3)), NONE))
        self.refused("entry", 1, (NONE, (web, web, ("side", 0, 0)), (web, web, ("same", (0, 1, 2)))))
        self.refused("entry", 0, ((web, web, ("parts", (0,))), (web, web, ("same", (0, 1, 2)))))
        # A web whose rest is itself but for numbers.
        four = line(4)
        self.refused("entry", 0, ((four, rest_web(four), ("rest",)), (rest_web(four), four, ("rest",))))


class Order(LikeCase):
    def test_last(self):
        one, other, way = MIXED[-1]
        self.assertIs(lets_like(one, other, MIXED), True)
        self.refused("last", -1, MIXED, other, one)
        self.refused("last", -1, MIXED, one, one)
        self.refused("last", -1, MIXED, other, other)
        self.refused("last", -1, MIXED)
        self.refused("last", -1, MIXED[:1], line(3), line(3))
        self.refused("last", -1, MIXED[:1], BENT, line(3))
        self.refused("last", -1, (ONE,), bare(0), bare(0))

    def test_words(self):
        wrong_way = (bare(1), bare(1), ("same", [0]))
        wrong_entry = (bare(1), bare(1), ("same", (1,)))
        wrong_shape = (bare(1), bare(1))
        self.refused("shape", -1, (wrong_entry, wrong_way, wrong_shape))
        self.refused("entry", 0, (wrong_entry, wrong_way))
        self.refused("way", 0, (wrong_way, wrong_entry))
        self.refused("way", 1, (ONE, wrong_way, wrong_entry, wrong_way))
        self.refused("entry", 1, (ONE, wrong_entry, wrong_way, wrong_entry))
        self.refused("entry", 2, (ONE, ONE, wrong_entry), bare(5), bare(5))
        self.refused("way", 2, (ONE, ONE, wrong_way), bare(5), bare(5))
        self.refused("last", -1, (ONE, ONE), bare(5), bare(5))

    def test_nothing_is_changed(self):
        one, other, way = MIXED[-1]
        assert_unchanged(self, lets_like, one, other, MIXED)
        assert_unchanged(self, lets_like, one, other, [list(entry) for entry in MIXED])
        assert_unchanged(self, lets_like, one, other, ((one, other, [["rows"], [1]]),))
        assert_unchanged(self, lets_like, one, other, ((one, other, ("rows", (1, 3), [[1], [2]], [])),))


def drawn_step(source, entries):
    """An entry, right or not, by a way that leans on drawn entries ahead."""
    left, right = source.choice(entries)[:2]
    again = source.choice(entries)[:2]
    both = side_by_side(left, again[0]), side_by_side(right, again[1])
    three = full(left[0] + 1) if source.random() < 0.5 else drawn_web(source, source.randint(0, 5), 0.5)
    some = tuple(source.sample(range(left[0]), left[0]))
    return source.choice((
        (right, left, ("turned",)), (left, again[1], ("by", right)), (left, again[1], ("by", again[0])),
        (rest_web(left), rest_web(right), ("rest",)), (*both, ("side", left[0], right[0])),
        (*both, ("parts", tuple(range(len(parts(both[0])))))), (three, three, ("same", tuple(range(three[0])))),
        (left, renumbered(left, some), ("same", some)), (left, right, rows_way(left, right)),
        (left, again[1], ("same", some)), (web_on(left, ()), bare(0), ("same", ())),
        *drawn_pairs(source, left, source.choice((right, renumbered(left, some)))),
    ))


def drawn_pairs(source, one, other):
    """Entries by a tie and by a place of each."""
    if one[1] and other[1]:
        yield one, other, ("tie", source.choice(one[1]), source.choice(other[1]))
    if one[0] and other[0]:
        q = source.randrange(other[0])
        order = source.sample(neighbours(other, q), len(neighbours(other, q)))
        yield one, other, ("place", source.randrange(one[0]), q, tuple(order))


def helping(entry):
    """Right entries that one by a tie or a place leans on, as far as they are like."""
    one, other, way = entry
    asked = []
    if way[0] == "tie":
        asked.append((without_tie(one, way[1]), without_tie(other, way[2])))
        asked.append((without_places(one, way[1]), without_places(other, way[2])))
    if way[0] == "place":
        p, q, order = way[1:]
        asked.append((without_places(one, (p,)), without_places(other, (q,))))
        for u, v in zip(neighbours(one, p), order):
            asked.append((without_places(one, (p, u)), without_places(other, (q, v))))
    return [pair for pair in asked if row_of(pair[0]) == row_of(pair[1])]


class Soundness(unittest.TestCase):
    def test_what_is_let_by_is_so(self):
        """Entries drawn by all ways, right ones kept: both webs of each have one row."""
        source = random.Random(345)
        words = []
        for again in range(150):
            entries = list(same_entries((STAR, TRIANGLE), (bare(0), bare(1)), (line(3), BENT)))
            for step in range(12):
                entry = drawn_step(source, entries)
                if max(entry[0][0], entry[1][0]) > 8:
                    continue
                entries += same_entries(*helping(entry))
                try:
                    lets_like(entry[0], entry[1], (*entries, entry))
                except NoPaper as refusal:
                    self.assertEqual(exact((refusal.word, refusal.place)), exact(("entry", len(entries))))
                    continue
                entries.append(entry)
                words.append(entry[2][0])
                self.assertEqual(row_gone_through(entry[0]), row_gone_through(entry[1]))
        for word in ("same", "tie", "place", "parts", "side", "rest", "turned", "by", "rows"):
            self.assertGreater(words.count(word), 3, word)

    def test_bent_webs(self):
        """Right papers with ties put in or taken out anywhere are let by only for webs of one row."""
        source = random.Random(346)
        let_by = 0
        for again in range(1500):
            paper = MIXED[:source.randint(1, len(MIXED))]
            k = source.randrange(len(paper))
            bent = list(paper[k])
            at = source.randrange(2)
            bent[at] = drawn_web(source, bent[at][0], 0.6)
            paper = paper[:k] + (tuple(bent),) + paper[k + 1:]
            try:
                lets_like(*paper[-1][:2], paper)
            except NoPaper:
                continue
            let_by += 1
            self.assertEqual(row_gone_through(paper[-1][0]), row_gone_through(paper[-1][1]))
        self.assertGreater(let_by, 20)


if __name__ == "__main__":
    unittest.main()
