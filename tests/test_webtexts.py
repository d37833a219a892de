import random
import unittest

from pairtally.errors import NoText
from pairtally.webs import is_web
from pairtally.webtexts import read_web, web_text
from tests.support import assert_refused, drawn_web, exact, full, line, some_webs


class Texts(unittest.TestCase):
    def test_written(self):
        self.assertEqual(web_text((4, ((0, 1), (1, 3)))), "4 0-1 1-3")
        self.assertEqual(web_text((0, ())), "0")
        self.assertEqual(web_text((12, ((0, 10), (2, 3), (10, 11)))), "12 0-10 2-3 10-11")

    def test_there_and_back(self):
        drawn = [drawn_web(random.Random(n), n, 0.3) for n in (20, 30, 60)]
        for web in some_webs() + drawn + [line(9999), (9999, ()), (9999, ((9997, 9998),)), full(100)]:
            text = web_text(web)
            self.assertEqual(exact(read_web(text)), exact(web))
            self.assertEqual(web_text(read_web(text)), text)

    def assert_place(self, place, text):
        assert_refused(self, NoText, {"place": place}, read_web, text)

    def test_wrong_many(self):
        for text in ["", " ", " 4", "04", "00", "10000", "00004", "-1", "+4", "4.", "a", "4-1", "0-1", "four", "_4", "4_0",
                     "1e3", "~", "99999999", "4,", "\t4", "4\n", "9" * 5000]:
            self.assert_place(0, text)
            self.assert_place(0, text + " 0-1")

    def test_wrong_words(self):
        for word in ["", "0", "1", "0-", "-1", "-", "--", "0--1", "0-1-2", "00-1", "0-01", "01-2", "1-0", "1-1", "0-4",
                     "3-4", "2-10", "0-10000", "10000-0", "10000-10001", "0,1", "0 -1", "a-b", "0-a", "0-+1", "+0-1",
                     "0_1", "0-1,", "-0-1", "0-1.", "0-" + "9" * 5000, "9" * 5000 + "-1"]:
            self.assert_place(1, "4 " + word)
            self.assert_place(1, "4 " + word + " 0-1 1-2")
            self.assert_place(3, "4 0-1 0-2 " + word)

    def test_every_other_sign(self):
        for number in range(33, 127):
            sign = f"{number:c}"
            if sign not in "0123456789":
                for many in (sign, "1" + sign, sign + "1"):
                    self.assert_place(0, many)
                for word in (sign + "0-1", "0-1" + sign, "0" + sign + "1-2", "0-" + sign, sign + "-1"):
                    self.assert_place(1, "4 " + word)
                if sign != "-":
                    self.assert_place(1, "4 0" + sign + "1")

    def test_blanks(self):
        self.assert_place(1, "4 ")
        self.assert_place(1, "4  0-1")
        self.assert_place(2, "4 0-1 ")
        self.assert_place(2, "4 0-1  1-2")
        self.assert_place(0, " 4 0-1")

    def test_order(self):
        self.assert_place(2, "4 0-1 0-1")
        self.assert_place(2, "4 0-2 0-1")
        self.assert_place(2, "4 1-2 0-3")
        self.assert_place(3, "4 0-1 1-2 0-3 9")
        # As Python sorts tuples, not as it sorts texts.
        self.assertEqual(read_web("12 2-3 10-11"), (12, ((2, 3), (10, 11))))
        self.assertEqual(read_web("12 0-9 0-10"), (12, ((0, 9), (0, 10))))
        self.assert_place(2, "12 10-11 2-3")

    def test_few_places(self):
        self.assert_place(1, "0 0-1")
        self.assert_place(1, "1 0-1")
        self.assertEqual(read_web("2 0-1"), (2, ((0, 1),)))
        self.assertEqual(read_web("0"), (0, ()))
        self.assertEqual(read_web("9999 0-9998"), (9999, ((0, 9998),)))
        self.assert_place(1, "9999 0-9999")

    def test_the_first_wrong_word_is_told(self):
        self.assert_place(0, "x x x")
        self.assert_place(1, "4 x x")
        self.assert_place(2, "4 0-1 x x")

    def test_any_text(self):
        """Texts drawn of signs that webs are written with are read and written back, or refused."""
        source = random.Random(6)
        read = 0
        for again in range(20000):
            text = "".join(source.choice("0123 -") for sign in range(source.randrange(1, 8)))
            try:
                web = read_web(text)
            except NoText as refusal:
                words = text.split(" ")
                ahead = " ".join(words[:refusal.place])
                if ahead:
                    self.assertEqual(web_text(read_web(ahead)), ahead)
                self.assertLess(refusal.place, len(words))
                continue
            read += 1
            self.assertTrue(is_web(web))
            self.assertEqual(web_text(web), text)
        self.assertGreater(read, 100)


if __name__ == "__main__":
    unittest.main()
