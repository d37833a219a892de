import itertools
import random
import unittest

from pairtally.desk import Desk
from pairtally.errors import NoLine, NoPairing, TooMany
from pairtally.making import full_row
from pairtally.webtexts import read_web, web_text
from tests.support import assert_refused, full, line, ring, row_gone_through, some_webs, star
from tests.test_numbers import in_order

# Said in this order: each form of a row, and its answer.
SAID = (
    ("names", "-"),
    ("web a 4 0-1 1-2 2-3", "4 0-1 1-2 2-3"),
    ("show a", "4 0-1 1-2 2-3"),
    ("web b 0", "0"),
    ("web zzzz 3 0-1 0-2 1-2", "3 0-1 0-2 1-2"),
    ("names", "a b zzzz"),
    ("side c a zzzz", "7 0-1 1-2 2-3 4-5 4-6 5-6"),
    ("side d zzzz a", "7 0-1 0-2 1-2 3-4 4-5 5-6"),
    ("side e b b", "0"),
    ("rest f a", "4 0-2 0-3 1-3"),
    ("rest g b", "0"),
    ("lines h a", "3 0-1 1-2"),
    ("lines i b", "0"),
    ("lines j zzzz", "3 0-1 0-2 1-2"),
    ("bare k a 1", "3 1-2"),
    ("bare k a 3", "3 0-1 1-2"),
    ("less l a 1 2", "4 0-1 2-3"),
    ("more m a 0 3", "4 0-1 0-3 1-2 2-3"),
    ("more m m 0 2", "4 0-1 0-2 0-3 1-2 2-3"),
    ("halve n a 1 2", "5 0-1 1-4 2-3 2-4"),
    ("names", "a b c d e f g h i j k l m n zzzz"),
    ("row a", "1 3 1"),
    ("row b", "1"),
    ("total a", "5"),
    ("total b", "1"),
    ("mean a", "1/1"),
    ("mean b", "0/1"),
    ("mean zzzz", "3/4"),
    ("tops a", "1"),
    ("tops b", "0"),
    ("web p 2 0-1", "2 0-1"),
    ("tops p", "0 1"),
    ("mean p", "1/2"),
    ("like a a", "like"),
    ("like a f", "like"),
    ("like c d", "like"),
    ("like a b", "unlike 1"),
    ("web s 4 0-1 0-2 0-3", "4 0-1 0-2 0-3"),
    ("like a s", "unlike 2"),
    ("like s a", "unlike 2"),
    ("like s zzzz", "like"),
    ("share a 0 1", "2/5"),
    ("share a 1 2", "1/5"),
    ("share zzzz 0 2", "1/4"),
    ("number a -", "0"),
    ("number a 0-1", "1"),
    ("number a 2-3", "3"),
    ("number a 0-1,2-3", "4"),
    ("number b -", "0"),
    ("pairing a 0", "-"),
    ("pairing a 2", "1-2"),
    ("pairing a 4", "0-1,2-3"),
    ("pairing b 0", "-"),
    ("draw a 000", "- 3"),
    ("draw a 100", "0-1,2-3 3"),
    ("draw a 111001", "0-1 6"),
    ("draw a 0010000", "0-1 3"),
    ("draw a 10", "-"),
    ("draw a 111", "-"),
    ("draw b 1", "- 0"),
    ("web a 1", "1"),
    ("show a", "1"),
    ("row a", "1"),
    ("rest zzzz zzzz", "3"),
    ("show zzzz", "3"),
    ("side zzzz zzzz zzzz", "6"),
    ("names", "a b c d e f g h i j k l m n p s zzzz"),
)

NO_ROWS = (
    "", " ", "  ", "nothing", "Names", "NAMES", "names ", " names", "names a", "names  a", "name", "-", "0", "a",
    "web", "web ", "web a", "web a ", "web  4", "web a  4", "web a 4 ", " web a 4", "web A 4", "web a1 4", "web abcde 4",
    "web 4", "web - 4", "Web a 4", "web a b", "web a 04", "web a 4 1-0", "web a 4 0-4", "web a 4 0-0", "web a 4 0-1 0-1",
    "web a 4 1-2 0-1", "web a 4  0-1", "web a 4 0-1 ", "web a 4 0-01", "web a 4 0", "web a 10000", "web a -1",
    "web a 4,0-1", "web a 4 0-1,2-3", "web a 12345 0-1", "web a 10 0-10", "web a 4 +0-1", "web a.b 4", "web a 4\t0-1",
    "side c a", "side c", "side", "side c a z", "side c z a", "side c a A", "side C a a", "side abcde a a", "side c a a a",
    "side c  a a", "side c a  a", "side  a a", "side c a a ", "side 1 a a", "side c a 1",
    "rest c", "rest c z", "rest", "rest C a", "rest c a a", "rest c A", "rest abcde a", "rest  a", "rest c a ", "rest c 4",
    "lines c", "lines c z", "lines C a", "lines c a a", "line c a", "lines", "lines c a 0",
    "bare c a", "bare c a 4", "bare c a 10", "bare c a -1", "bare c a 00", "bare c a 01", "bare c a x", "bare c a 0 1",
    "bare c a ", "bare c z 0", "bare C a 0", "bare c a 0-1", "bare c a " + "1" * 41, "bare c a " + "1" * 40, "bare c e 0",
    "less c a 0", "less c a 0 2", "less c a 1 0", "less c a 0 0", "less c a 0 4", "less c a 3 4", "less c a 0-1",
    "less c a 0 1 2", "less c a 00 1", "less c a 0 01", "less c a 0  1", "less c z 0 1", "less C a 0 1", "less c a 0 x",
    "less c a -1 0", "less c a 0 1 ", "less c e 0 1", "less c a " + "0" * 2 + " 1", "less c a 0 1" + "0" * 40,
    "more c a 0", "more c a 0 1", "more c a 1 0", "more c a 2 0", "more c a 0 0", "more c a 0 4", "more c a 3 4",
    "more c a 0-2", "more c a 0 2 3", "more c a 00 2", "more c a 0 02", "more c z 0 2", "more C a 0 2", "more c e 0 1",
    "more c a 4 5", "more c a 0 x",
    "halve c a 0", "halve c a 0 2", "halve c a 1 0", "halve c a 0 4", "halve c a 0-1", "halve c a 0 1 2", "halve c z 0 1",
    "halve C a 0 1", "halve c a 00 1", "halve c a 0 01", "halve c e 0 1", "halve",
    "show", "show z", "show a a", "show A", "show a ", "show  a", "show 4", "show abcde", "shows a",
    "row", "row z", "row a a", "Row a", "row a ", "total", "total z", "total a a", "mean", "mean z", "mean a a",
    "tops", "tops z", "tops a a", "top a", "like a", "like a z", "like z a", "like", "like a a a", "like A a", "like a  a",
    "share a 0", "share a", "share a 0 2", "share a 1 0", "share a 0 4", "share a 0-1", "share a 0 1 2", "share z 0 1",
    "share a 00 1", "share e 0 1", "share c a 0 1", "share a 0 0",
    "number a", "number a ", "number z -", "number A -", "number a - -", "number a --", "number a 0", "number a 0-1,",
    "number a ,0-1", "number a 0-1,,2-3", "number a 0-1, 2-3", "number a 0-1 2-3", "number a 0-1,-", "number a -,0-1",
    "number a 00-1", "number a 0-01", "number a 0-1-2", "number a 0-", "number a -1", "number a x-y", "number a (0-1)",
    "number a 0-" + "1" * 41, "number a " + "1" * 41 + "-0", "number a ((0, 1),)", "number a 0_1", "number a +0-1",
    "pairing a", "pairing z 0", "pairing a 00", "pairing a 01", "pairing a -1", "pairing a x", "pairing a 0 0",
    "pairing a " + "1" * 41, "pairing a 1.0", "pairing a +1", "pairing a 1_0", "pairing a ", "pairing A 0",
    "draw a", "draw a ", "draw z 0", "draw a 2", "draw a 012", "draw a 0 1", "draw a -", "draw a x", "draw a " + "0" * 201,
    "draw a 0,1", "draw A 0", "draw a 0 ", "draw a  0",
)


def desk_with(*rows):
    desk = Desk()
    for row in rows:
        desk.say(row)
    return desk


def small_desk():
    return desk_with("web a 4 0-1 1-2 2-3", "web e 0", "web f 5 0-1 0-2 3-4")


def shown(desk):
    """All that is kept, by what the desk tells."""
    names = desk.say("names")
    return names, [desk.say("show " + name) for name in names.split(" ") if names != "-"]


class Rows(unittest.TestCase):
    def test_each_form(self):
        desk = Desk()
        for row, told in SAID:
            self.assertEqual(desk.say(row), told, row)

    def test_again_and_again(self):
        desk = small_desk()
        for row in ("row a", "like a f", "draw f 0101", "number a 1-2"):
            self.assertEqual(desk.say(row), desk.say(row))

    def test_answers_of_many_webs(self):
        source = random.Random(411)
        for web in some_webs(each=2, seed=412):
            desk = Desk()
            self.assertEqual(desk.say("web x " + web_text(web)), web_text(web))
            row = row_gone_through(web)
            self.assertEqual(desk.say("row x"), " ".join(str(number) for number in row))
            self.assertEqual(desk.say("total x"), str(sum(row)))
            self.assertEqual(desk.say("tops x"), " ".join(str(k) for k in range(len(row)) if row[k] == max(row)))
            every = in_order(web)
            for number in {0, len(every) - 1, source.randrange(len(every))}:
                text = ",".join(f"{i}-{j}" for i, j in every[number]) or "-"
                self.assertEqual(desk.say(f"pairing x {number}"), text)
                self.assertEqual(desk.say("number x " + text), str(number))

    def test_names_told_anew(self):
        desk = desk_with("web a 2 0-1", "web a 3")
        self.assertEqual(shown(desk), ("a", ["3"]))
        desk.say("rest a a")
        self.assertEqual(shown(desk), ("a", ["3 0-1 0-2 1-2"]))
        self.assertEqual(desk.say("side a a a"), "6 0-1 0-2 1-2 3-4 3-5 4-5")
        self.assertEqual(desk.say("bare a a 0"), "5 0-1 2-3 2-4 3-4")
        self.assertEqual(desk.say("less a a 2 4"), "5 0-1 2-3 3-4")
        self.assertEqual(desk.say("more a a 1 4"), "5 0-1 1-4 2-3 3-4")
        self.assertEqual(desk.say("halve a a 0 1"), "6 0-5 1-4 1-5 2-3 3-4")
        self.assertEqual(desk.say("lines a a"), "5 0-2 1-2 1-4 3-4")
        self.assertEqual(desk.say("names"), "a")
        # What was made of a web stays where that is told anew.
        desk.say("rest b a")
        kept = desk.say("show b")
        desk.say("web a 0")
        self.assertEqual(desk.say("show b"), kept)

    def test_words_of_rows_as_names(self):
        desk = desk_with("web web 2 0-1", "web row 3 0-1", "web like 1", "web side 0")
        self.assertEqual(desk.say("names"), "like row side web")
        self.assertEqual(desk.say("row row"), "1 1")
        self.assertEqual(desk.say("like web row"), "like")
        self.assertEqual(desk.say("side side web like"), "3 0-1")
        self.assertEqual(desk.say("show web"), "2 0-1")

    def test_names_sorted(self):
        desk = desk_with("web b 0", "web ab 1", "web a 2", "web zzzz 3", "web aa 4", "web z 5")
        self.assertEqual(desk.say("names"), "a aa ab b z zzzz")

    def test_long_tapes(self):
        desk = small_desk()
        self.assertEqual(desk.say("draw a " + "1" * 197 + "011"), "-")
        self.assertEqual(desk.say("draw a " + "1" * 195 + "01111"), "2-3 198")
        self.assertEqual(desk.say("draw a " + "1" * 200), "-")
        self.assertEqual(desk.say("draw e " + "1" * 200), "- 0")

    def test_nine_places(self):
        desk = desk_with("web a " + web_text(full(9)))
        self.assertEqual(desk.say("row a"), " ".join(str(number) for number in full_row(9)))
        self.assertEqual(desk.say("rest b a"), "9")
        self.assertEqual(desk.say("like a b"), "unlike 1")
        self.assertEqual(desk.say("share a 0 8"), "58/655")
        self.assertEqual(desk.say("pairing a 2619"), "1-8,2-7,3-6,4-5")


class Refusals(unittest.TestCase):
    def assert_nothing_changes(self, desk, kind, fields, row):
        kept = shown(desk)
        assert_refused(self, kind, fields, desk.say, row)
        self.assertEqual(shown(desk), kept)

    def test_no_rows(self):
        desk = small_desk()
        for row in NO_ROWS:
            self.assert_nothing_changes(desk, NoLine, {"line": row}, row)

    def test_no_rows_of_a_new_desk(self):
        for row, told in SAID:
            if row.split(" ")[0] not in ("names", "web"):
                self.assert_nothing_changes(Desk(), NoLine, {"line": row}, row)

    def test_right_rows_bent(self):
        """A word more or fewer, blanks more or ahead or behind, capitals."""
        for at, (row, told) in enumerate(SAID):
            desk = desk_with(*[said for said, answered in SAID[:at]])
            words = row.split(" ")
            bent = [row + " ", " " + row, row.replace(" ", "  ", 1), row.upper(), row.capitalize(), row + " x"]
            bent += ["\t".join(words), row + "\n"]
            if words[0] != "web":
                bent += [" ".join(words[:-1])]
            for other in bent:
                if other != row:
                    self.assert_nothing_changes(desk, NoLine, {"line": other}, other)

    def test_too_many(self):
        desk = desk_with("web a 9 0-1", "web b 5", "web c 1", "web d " + web_text(full(5)), "web e 9 0-1 1-2")
        for row in (
            "web f 10", "web a 9999 0-9998", "web f " + web_text(ring(10)), "side f a c", "side f b b", "side f c a",
            "side f b d", "lines f d", "halve f a 0 1", "side a a a", "lines d d", "halve a e 1 2", "side f a a",
        ):
            self.assert_nothing_changes(desk, TooMany, {}, row)
        # Just nine are kept.
        self.assertEqual(desk.say("web f 9"), "9")
        self.assertEqual(desk.say("less g d 0 1"), "5 0-2 0-3 0-4 1-2 1-3 1-4 2-3 2-4 3-4")
        self.assertEqual(desk.say("lines h g").split(" ")[0], "9")
        self.assertEqual(desk.say("bare i a 0"), "8")
        self.assertEqual(desk.say("side i i c"), "9")

    def test_no_line_ahead_of_too_many(self):
        desk = desk_with("web a 9 0-1")
        for row in (
            "side F a a", "side f a z", "halve F a 0 1", "halve f a 0 2", "web F 10", "web f 10 0-10", "web f 10 ",
            "side f a a ", "lines f z",
        ):
            self.assert_nothing_changes(desk, NoLine, {"line": row}, row)

    def test_no_pairing(self):
        desk = small_desk()
        for row in (
            "number a 1-0", "number a 0-0", "number a 0-2", "number a 0-1,0-1", "number a 0-1,1-2", "number a 2-3,0-1",
            "number a 0-4", "number a 0-1,2-4", "number a " + "1" * 40 + "-" + "9" * 40, "number e 0-1", "number f 1-2",
            "pairing a 5", "pairing a 6", "pairing e 1", "pairing f 6", "pairing a " + "9" * 40, "number a 0-1,1-0",
        ):
            self.assert_nothing_changes(desk, NoPairing, {}, row)

    def test_no_line_ahead_of_no_pairing(self):
        desk = small_desk()
        for row in ("number a 1-0,", "number a 1-0,x", "number z 1-0", "number a 1-0 x", "pairing z 99", "pairing a 099"):
            self.assert_nothing_changes(desk, NoLine, {"line": row}, row)

    def test_two_desks(self):
        one, other = Desk(), Desk()
        one.say("web a 2 0-1")
        self.assertEqual((one.say("names"), other.say("names")), ("a", "-"))
        other.say("web a 3")
        other.say("web b 1")
        self.assertEqual((one.say("show a"), other.say("show a")), ("2 0-1", "3"))
        assert_refused(self, NoLine, {"line": "show b"}, one.say, "show b")
        self.assertEqual(Desk().say("names"), "-")

    def test_drawn_rows(self):
        """Rows of drawn words are answered or refused, and only those with a new name change what is kept."""
        source = random.Random(413)
        forms = (
            "web side rest lines bare less more halve names show row total mean tops like share number pairing draw"
        ).split(" ")
        others = "a b cc 0 1 2 3 0-1 1-2 - 0-1,2-3 01 010 4".split(" ")
        desk = desk_with("web a 4 0-1 1-2 2-3", "web b 3 0-1", "web cc 5 0-1 1-2")
        answered = {}
        for again in range(40000):
            word = source.choice(forms)
            row = " ".join([word] + [source.choice(others[:7]) for k in range(source.randint(0, 4))])
            if source.random() < 0.3:
                row += " " + source.choice(others)
            kept = desk.say("names")
            try:
                told = desk.say(row)
            except (NoLine, TooMany, NoPairing):
                self.assertEqual(desk.say("names"), kept)
                continue
            answered[word] = True
            if word in forms[:8]:
                self.assertEqual(told, desk.say("show " + row.split(" ")[1]))
                self.assertLessEqual(read_web(told)[0], 9)
            desk.say("web a 4 0-1 1-2 2-3")
            desk.say("web b 3 0-1")
        self.assertEqual(sorted(answered), sorted(forms))


class Forms(unittest.TestCase):
    def test_each_pair_of_small_webs_is_put_side_by_side(self):
        for one, other in itertools.product((line(0), line(2), star(4), ring(5)), repeat=2):
            desk = desk_with("web a " + web_text(one), "web b " + web_text(other))
            moved = tuple((i + one[0], j + one[0]) for i, j in other[1])
            both = (one[0] + other[0], one[1] + moved)
            if both[0] <= 9:
                self.assertEqual(desk.say("side c a b"), web_text(both))
            else:
                assert_refused(self, TooMany, {}, desk.say, "side c a b")


if __name__ == "__main__":
    unittest.main()
