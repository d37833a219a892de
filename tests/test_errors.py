import unittest

from pairtally.errors import NoLine, NoPairing, NoPaper, NoText, TallyError, TooMany

THINGS = (None, True, 0, "", "row", [], [1, [2]], (), (1, [None]), 10 ** 39)


class Untouchable:
    """Something that fails as soon as it is looked at."""

    def __repr__(self):
        raise AssertionError("looked at")

    __str__ = __len__ = __eq__ = __bool__ = __iter__ = __repr__
    __hash__ = None


class Errors(unittest.TestCase):
    def test_each_stands_right_under_the_base(self):
        self.assertEqual(TallyError.__bases__, (ValueError,))
        for kind in (NoPaper, NoText, NoLine, NoPairing, TooMany):
            self.assertEqual(kind.__bases__, (TallyError,))

    def test_those_made_of_a_text(self):
        for kind in (TallyError, NoPairing, TooMany):
            with self.assertRaises(TallyError) as caught:
                raise kind("why not")
            self.assertIs(caught.exception.__class__, kind)
            self.assertEqual(str(caught.exception), "why not")

    def test_fields_are_kept_by_their_names(self):
        for one in THINGS:
            self.assertIs(NoText(one).place, one)
            self.assertIs(NoLine(one).line, one)
            for other in THINGS:
                error = NoPaper(one, other)
                self.assertIs(error.word, one)
                self.assertIs(error.place, other)

    def test_fields_are_not_looked_at(self):
        thing = Untouchable()
        self.assertIs(NoText(thing).place, thing)
        self.assertIs(NoLine(thing).line, thing)
        error = NoPaper(thing, thing)
        self.assertIs(error.word, thing)
        self.assertIs(error.place, thing)
        self.assertIsInstance(str(error), str)

    def test_fields_are_not_changed(self):
        held = [1, [2]]
        NoPaper(held, held), NoText(held), NoLine(held)
        self.assertEqual(held, [1, [2]])


if __name__ == "__main__":
    unittest.main()
