import unittest

from cornerfloor.errors import BadFloor, BadNumber, BadPlace, FloorError
from cornerfloor.floors import piece
from cornerfloor.numbers import count, number_of, piece_of, ways
from cornerfloor.unlike import first_unlike, unlike


class Thing:
    """A thing that is no number and no place, and that can't be hashed or compared."""

    __hash__ = None

    def __eq__(self, other):
        raise AssertionError("what is no place is not to be compared")


NO_NUMBERS = (
    None, True, False, "", "1", "one", b"", b"1", 0.0, 1.0, 1.5, float("nan"), float("inf"), 1j,
    (), (1,), (1, 0), [], [1], {}, {1: 1}, {1}, frozenset(), range(2), object(), Thing(), int, len,
    Ellipsis, bytearray(b"1"),
)
NO_PLACES = (
    None, True, False, 0, 1, 3, -1, 0.0, 1j, "", "00", "ab", b"", b"00", bytearray(b"00"), [], [0, 0],
    [1, 1], {}, {0: 0, 1: 1}, {0, 1}, frozenset((0, 1)), range(2), object(), Thing(), tuple, len,
    (), (0,), (0, 0, 0), (0, 0, 0, 0), ((0, 0),), ((0, 0), 0), (0, (0, 0)), ((0, 0), (0, 0)),
    ((0,), (0,)), ([0], [0]), ([0, 0],), [(0, 0)],
)


def wrong_places(size):
    """What is no place of a floor of a size, of many kinds."""
    side = 2 ** size
    wrong = list(NO_PLACES)
    for value in NO_NUMBERS:
        wrong += [(value, 0), (0, value), (value, value)]
    for beyond in (-1, -2, -side, side, side + 1, 2 * side, 2 ** 401, -2 ** 401):
        wrong += [(beyond, 0), (0, beyond), (beyond, beyond)]
    return wrong


NEITHER = tuple(value for value in NO_PLACES if type(value) is not int)
WRONG_SIZES = NO_NUMBERS + NEITHER + (-1, -2, -400, 401, 402, 2 ** 64, 10 ** 30, -10 ** 30)
SOME_WRONG_PLACES = (None, [0, 0], (0,), (-1, 0), (0, True), (2 ** 401, 0), "00", {}, Thing())
SOME_WRONG_NUMBERS = (None, True, False, -1, 2 ** 801, 1.0, "0", [], (0,), {}, Thing())


def wrong_numbers(size):
    """What is no number of a piece of a floor of a size, of many kinds."""
    many = count(size)
    return NO_NUMBERS + NEITHER + (-1, -2, -many - 1, many, many + 1, 3 * many + 1, 2 ** 801, -2 ** 801)


class RefusalTestCase(unittest.TestCase):
    def assert_refused(self, error, function, *asked):
        with self.assertRaises(FloorError) as caught:
            function(*asked)
        self.assertIs(type(caught.exception), error)
        self.assertIsInstance(caught.exception, ValueError)
        for other in {BadFloor, BadPlace, BadNumber} - {error}:
            self.assertNotIsInstance(caught.exception, other)


class SizesTest(RefusalTestCase):
    """No size is refused everywhere, and goes first."""

    def test_no_size(self):
        for size in WRONG_SIZES:
            self.assert_refused(BadFloor, count, size)
            self.assert_refused(BadFloor, piece, size, (0, 0), (0, 1))
            self.assert_refused(BadFloor, number_of, size, (0, 0), (0, 1))
            self.assert_refused(BadFloor, piece_of, size, (0, 0), 0)
            self.assert_refused(BadFloor, ways, size, (0, 0))
            self.assert_refused(BadFloor, unlike, size, (0, 0), (0, 1))
            self.assert_refused(BadFloor, first_unlike, size, (0, 0), (0, 1))

    def test_the_least_and_the_greatest_size(self):
        last = (2 ** 400 - 1, 2 ** 400 - 1)
        self.assertEqual(count(0), 0)
        self.assertEqual(ways(0, (0, 0)), [0, 0, 0, 0])
        self.assertEqual(unlike(0, (0, 0), (0, 0)), 0)
        self.assertEqual(first_unlike(0, (0, 0), (0, 0)), -1)
        self.assertEqual(count(400), (4 ** 400 - 1) // 3)
        self.assertEqual(piece(400, (0, 0), (0, 1)), [(0, 1), (1, 0), (1, 1)])
        self.assertEqual(number_of(400, (0, 0), (0, 1)), 399)
        self.assertEqual(piece_of(400, last, 399), [(0, 0), (0, 1), (1, 0)])
        self.assertEqual(sum(ways(400, last)), count(400))
        self.assertEqual(unlike(400, (0, 0), last), 2 ** 400 - 1)
        self.assertEqual(first_unlike(400, (0, 0), last), 0)

    def test_a_wrong_size_goes_first(self):
        for size in WRONG_SIZES:
            for wrong in SOME_WRONG_PLACES:
                for function in (piece, number_of, unlike, first_unlike):
                    self.assert_refused(BadFloor, function, size, wrong, (0, 1))
                    self.assert_refused(BadFloor, function, size, (0, 0), wrong)
                    self.assert_refused(BadFloor, function, size, wrong, wrong)
                self.assert_refused(BadFloor, piece_of, size, wrong, 0)
                self.assert_refused(BadFloor, ways, size, wrong)
            for wrong in SOME_WRONG_NUMBERS:
                self.assert_refused(BadFloor, piece_of, size, (0, 0), wrong)
                self.assert_refused(BadFloor, piece_of, size, None, wrong)
            for function in (piece, number_of, unlike, first_unlike):
                self.assert_refused(BadFloor, function, size, (0, 0), (0, 0))


class PlacesTest(RefusalTestCase):
    SIZES = (0, 1, 2, 400)

    def test_no_place_left_out(self):
        for size in self.SIZES:
            for out in wrong_places(size):
                self.assert_refused(BadPlace, ways, size, out)
                for number in (0, count(size)):
                    self.assert_refused(BadPlace, piece_of, size, out, number)
                for function in (piece, number_of):
                    self.assert_refused(BadPlace, function, size, out, (1, 1))
                    self.assert_refused(BadPlace, function, size, out, (0, 0))

    def test_no_place(self):
        for size in self.SIZES:
            for place in wrong_places(size):
                for function in (piece, number_of):
                    self.assert_refused(BadPlace, function, size, (0, 0), place)

    def test_no_place_left_out_of_either_floor(self):
        for size in self.SIZES:
            for wrong in wrong_places(size):
                for function in (unlike, first_unlike):
                    self.assert_refused(BadPlace, function, size, wrong, (0, 0))
                    self.assert_refused(BadPlace, function, size, (0, 0), wrong)
                    self.assert_refused(BadPlace, function, size, wrong, wrong)

    def test_the_one_left_out(self):
        last = 2 ** 400 - 1
        for size, out in ((0, (0, 0)), (1, (1, 0)), (3, (5, 2)), (400, (last, last)), (400, (0, last))):
            for function in (piece, number_of):
                self.assert_refused(BadPlace, function, size, out, out)
                self.assert_refused(BadPlace, function, size, out, tuple(list(out)))

    def test_a_floor_of_size_0_has_no_piece(self):
        for out in ((0, 0), (0, 1), None):
            for place in ((0, 0), (1, 0), (0, 1), (1, 1), None):
                for function in (piece, number_of):
                    self.assert_refused(BadPlace, function, 0, out, place)

    def test_the_last_place_and_beyond(self):
        for size in (1, 2, 5, 400):
            last = 2 ** size - 1
            self.assertIn((last, last), piece(size, (0, 0), (last, last)))
            self.assertIn((0, 0), piece(size, (last, last), (0, 0)))
            self.assertEqual(number_of(size, (0, 0), (last, last)), count(size) - 1)
            self.assertEqual(number_of(size, (last, last), (0, 0)), size - 1)
            self.assertEqual(sum(ways(size, (last, last))), count(size))
            self.assertEqual(first_unlike(size, (last, last), (0, 0)), 0)
            for wrong in ((last + 1, 0), (0, last + 1), (-1, 0), (0, -1)):
                for function in (piece, number_of):
                    self.assert_refused(BadPlace, function, size, (0, 0), wrong)
                    self.assert_refused(BadPlace, function, size, wrong, (1, 1))
                for function in (unlike, first_unlike):
                    self.assert_refused(BadPlace, function, size, (0, 0), wrong)
                    self.assert_refused(BadPlace, function, size, wrong, (1, 1))
                self.assert_refused(BadPlace, piece_of, size, wrong, 0)
                self.assert_refused(BadPlace, ways, size, wrong)

    def test_both_places_wrong(self):
        for function in (piece, number_of, unlike, first_unlike):
            for one in SOME_WRONG_PLACES:
                for other in SOME_WRONG_PLACES:
                    self.assert_refused(BadPlace, function, 2, one, other)

    def test_a_wrong_place_goes_before_a_wrong_number(self):
        for size in self.SIZES:
            for place in SOME_WRONG_PLACES:
                for number in SOME_WRONG_NUMBERS:
                    self.assert_refused(BadPlace, piece_of, size, place, number)


class NumbersTest(RefusalTestCase):
    def test_no_number(self):
        for size in (0, 1, 2, 3, 400):
            for out in ((0, 0), (2 ** size - 1, 0)):
                for number in wrong_numbers(size):
                    self.assert_refused(BadNumber, piece_of, size, out, number)

    def test_a_floor_of_size_0_has_no_number(self):
        for number in (0, 1, -1, True, False, None, (0, 0), []):
            self.assert_refused(BadNumber, piece_of, 0, (0, 0), number)

    def test_the_last_number_and_beyond(self):
        for size in (1, 2, 5, 399, 400):
            last = 2 ** size - 1
            many = count(size)
            self.assertIn((last, last), piece_of(size, (0, 0), many - 1))
            self.assert_refused(BadNumber, piece_of, size, (0, 0), many)
            self.assert_refused(BadNumber, piece_of, size, (0, 0), -1)
            self.assertEqual(len(piece_of(size, (0, 0), 0)), 3)


class HandedInTest(RefusalTestCase):
    def test_nothing_refused_is_changed(self):
        inner = [0, 0]
        for function in (piece, number_of, unlike, first_unlike):
            self.assert_refused(BadPlace, function, 2, inner, (1, 1))
            self.assert_refused(BadPlace, function, 2, (inner, 0), (1, 1))
            self.assert_refused(BadPlace, function, 2, (0, 0), (0, inner))
        self.assert_refused(BadPlace, ways, 2, inner)
        self.assert_refused(BadNumber, piece_of, 2, (0, 0), inner)
        self.assert_refused(BadFloor, count, inner)
        self.assertEqual(inner, [0, 0])

    def test_nothing_taken_is_changed(self):
        out, place = (3, 1), (2, 2)
        piece(2, out, place)
        number_of(2, out, place)
        piece_of(2, out, 3)
        ways(2, out)
        unlike(2, out, place)
        first_unlike(2, out, place)
        self.assertEqual((out, place), ((3, 1), (2, 2)))

    def test_a_refusal_changes_nothing_that_is_told_later(self):
        for _ in range(2):
            self.assertEqual(ways(1, (0, 0)), [1, 0, 0, 0])
            self.assertEqual(piece_of(1, (0, 0), 0), [(0, 1), (1, 0), (1, 1)])
            self.assertEqual(unlike(1, (0, 0), (1, 0)), 1)
            self.assert_refused(BadNumber, piece_of, 1, (0, 0), 1)
            self.assert_refused(BadPlace, unlike, 1, (0, 0), (2, 0))
            self.assert_refused(BadFloor, ways, -1, (0, 0))


if __name__ == "__main__":
    unittest.main()
