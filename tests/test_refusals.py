import unittest

from cornerfloor.errors import BadFloor, BadNumber, BadPlace, FloorError
from cornerfloor.floors import piece


class Thing:
    """A thing that is no number and no place, and that can't be hashed or compared."""

    __hash__ = None

    def __eq__(self, other):
        raise AssertionError("what is no place is not to be compared")


NO_NUMBERS = (
    None, True, False, "", "1", "one", b"", b"1", 0.0, 1.0, 1.5, float("nan"), float("inf"), 1j,
    (), (1,), (1, 0), [], [1], {}, {1: 1}, {1}, frozenset(), range(2), object(), Thing(), int, len,
    Ellipsis, bytearray(b"1"),
)
NO_PLACES = (
    None, True, False, 0, 1, 3, -1, 0.0, 1j, "", "00", "ab", b"", b"00", bytearray(b"00"), [], [0, 0],
    [1, 1], {}, {0: 0, 1: 1}, {0, 1}, frozenset((0, 1)), range(2), object(), Thing(), tuple, len,
    (), (0,), (0, 0, 0), (0, 0, 0, 0), ((0, 0),), ((0, 0), 0), (0, (0, 0)), ((0, 0), (0, 0)),
    ((0,), (0,)), ([0], [0]), ([0, 0],), [(0, 0)],
)


def wrong_places(size):
    """What is no place of a floor of a size, of many kinds."""
    side = 2 ** size
    wrong = list(NO_PLACES)
    for value in NO_NUMBERS:
        wrong += [(value, 0), (0, value), (value, value)]
    for count in (-1, -2, -side, side, side + 1, 2 * side, 2 ** 401, -2 ** 401):
        wrong += [(count, 0), (0, count), (count, count)]
    return wrong


class RefusalsTest(unittest.TestCase):
    WRONG_SIZES = NO_NUMBERS + (-1, -2, -400, 401, 402, 2 ** 64, 10 ** 30, -10 ** 30)

    def assert_refused(self, error, size, out, place):
        with self.assertRaises(FloorError) as caught:
            piece(size, out, place)
        self.assertIs(type(caught.exception), error)
        self.assertIsInstance(caught.exception, ValueError)
        for other in {BadFloor, BadPlace, BadNumber} - {error}:
            self.assertNotIsInstance(caught.exception, other)

    def test_no_size(self):
        for size in self.WRONG_SIZES:
            self.assert_refused(BadFloor, size, (0, 0), (0, 1))

    def test_the_least_and_the_greatest_size(self):
        self.assert_refused(BadFloor, -1, (0, 0), (0, 1))
        self.assert_refused(BadPlace, 0, (0, 0), (0, 1))
        self.assertEqual(piece(400, (0, 0), (0, 1)), [(0, 1), (1, 0), (1, 1)])
        self.assert_refused(BadFloor, 401, (0, 0), (0, 1))

    def test_no_place_left_out(self):
        for size in (0, 1, 2, 400):
            for out in wrong_places(size):
                self.assert_refused(BadPlace, size, out, (1, 1))
                self.assert_refused(BadPlace, size, out, (0, 0))

    def test_no_place(self):
        for size in (0, 1, 2, 400):
            for place in wrong_places(size):
                self.assert_refused(BadPlace, size, (0, 0), place)

    def test_the_one_left_out(self):
        last = 2 ** 400 - 1
        for size, out in ((0, (0, 0)), (1, (1, 0)), (3, (5, 2)), (400, (last, last)), (400, (0, last))):
            self.assert_refused(BadPlace, size, out, out)
            self.assert_refused(BadPlace, size, out, tuple(list(out)))

    def test_a_floor_of_size_0_has_no_piece(self):
        for out in ((0, 0), (0, 1), None):
            for place in ((0, 0), (1, 0), (0, 1), (1, 1), None):
                self.assert_refused(BadPlace, 0, out, place)

    def test_the_last_place_and_beyond(self):
        for size in (1, 2, 5, 400):
            last = 2 ** size - 1
            self.assertIn((last, last), piece(size, (0, 0), (last, last)))
            self.assertIn((0, 0), piece(size, (last, last), (0, 0)))
            for wrong in ((last + 1, 0), (0, last + 1), (-1, 0), (0, -1)):
                self.assert_refused(BadPlace, size, (0, 0), wrong)
                self.assert_refused(BadPlace, size, wrong, (1, 1))

    def test_a_wrong_size_goes_first(self):
        for size in self.WRONG_SIZES:
            for wrong in (None, [0, 0], (0,), (-1, 0), (0, True), (2 ** 401, 0), Thing()):
                self.assert_refused(BadFloor, size, wrong, (0, 1))
                self.assert_refused(BadFloor, size, (0, 0), wrong)
                self.assert_refused(BadFloor, size, wrong, wrong)
            self.assert_refused(BadFloor, size, (0, 0), (0, 0))

    def test_both_places_wrong(self):
        for out in (None, [0, 0], (0,), (-1, 0), (0, True), (4, 0)):
            for place in (None, [0, 0], (0,), (-1, 0), (0, True), (4, 0)):
                self.assert_refused(BadPlace, 2, out, place)

    def test_nothing_handed_in_is_changed(self):
        inner = [0, 0]
        self.assert_refused(BadPlace, 2, inner, (1, 1))
        self.assert_refused(BadPlace, 2, (inner, 0), (1, 1))
        self.assert_refused(BadPlace, 2, (0, 0), (0, inner))
        self.assertEqual(inner, [0, 0])
        out, place = (3, 1), (2, 2)
        piece(2, out, place)
        self.assertEqual((out, place), ((3, 1), (2, 2)))


if __name__ == "__main__":
    unittest.main()
