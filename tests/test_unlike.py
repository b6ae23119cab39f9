import inspect
import unittest

import reference
from cornerfloor import unlike as unlike_file
from cornerfloor.floors import piece
from cornerfloor.numbers import count, number_of, piece_of
from cornerfloor.unlike import first_unlike, unlike
from reference import corner_places, drawn, near, places_of, some_places


def named_pieces(size):
    """For each place left out the pieces of a small floor, by number: a name for each set of three places."""
    names = {}
    return {
        out: [names.setdefault(frozenset(told), len(names)) for told in reference.all_pieces(size, out)]
        for out in places_of(size)
    }


def first_of_none(named, others):
    """The number of the first piece that is not among others, -1 for none."""
    for number, name in enumerate(named):
        if name not in others:
            return number
    return -1


class InterfaceTest(unittest.TestCase):
    def test_each_is_defined_in_its_file(self):
        for name in ("unlike", "first_unlike"):
            function = getattr(unlike_file, name)
            self.assertTrue(inspect.isfunction(function))
            self.assertEqual(function.__module__, "cornerfloor.unlike")
            self.assertEqual(list(inspect.signature(function).parameters), ["size", "one", "other"])

    def test_the_names_of_the_arguments(self):
        self.assertEqual(unlike(other=(1, 1), one=(0, 0), size=1), 1)
        self.assertEqual(first_unlike(other=(1, 1), one=(0, 0), size=1), 0)

    def test_numbers_are_told_and_no_truths(self):
        for size in (0, 1, 2, 3):
            for one in places_of(size):
                for other in places_of(size):
                    self.assertIs(type(unlike(size, one, other)), int)
                    self.assertIs(type(first_unlike(size, one, other)), int)
        for other in ((0, 0), (0, 1), (2 ** 399, 2 ** 400 - 1)):
            self.assertIs(type(unlike(400, (0, 0), other)), int)
            self.assertIs(type(first_unlike(400, (0, 0), other)), int)


class SmallFloorsTest(unittest.TestCase):
    """Floors of size 0 to 5 whole, for every two places left out."""

    def test_how_many_and_the_first_piece_by_piece(self):
        for size in range(6):
            named = named_pieces(size)
            whole = {out: frozenset(named[out]) for out in named}
            for one in whole:
                for other in whole:
                    # How many the other way round is looked at in a test of its own.
                    if one <= other:
                        self.assertEqual(unlike(size, one, other), len(whole[one] - whole[other]))
                    self.assertEqual(first_unlike(size, one, other), first_of_none(named[one], whole[other]))

    def test_as_many_the_other_way_round(self):
        for size in range(6):
            for one in places_of(size):
                for other in places_of(size):
                    if one < other:
                        self.assertEqual(unlike(size, one, other), unlike(size, other, one))

    def test_none_just_where_the_places_are_one(self):
        for size in range(6):
            for one in places_of(size):
                self.assertEqual(unlike(size, one, tuple(list(one))), 0)
                self.assertEqual(first_unlike(size, one, tuple(list(one))), -1)
        for size in range(5):
            for one in places_of(size):
                for other in places_of(size):
                    if one != other:
                        self.assertGreater(unlike(size, one, other), 0)
                        self.assertGreaterEqual(first_unlike(size, one, other), 0)

    def test_never_more_than_by_a_third_place(self):
        for size in range(4):
            places = places_of(size)
            many = {(one, other): unlike(size, one, other) for one in places for other in places}
            for one in places:
                for other in places:
                    least = min(many[one, third] + many[third, other] for third in places)
                    self.assertLessEqual(many[one, other], least)


class ByHandTest(unittest.TestCase):
    def test_size_zero(self):
        self.assertEqual(unlike(0, (0, 0), (0, 0)), 0)
        self.assertEqual(first_unlike(0, (0, 0), (0, 0)), -1)

    def test_size_one(self):
        for one in places_of(1):
            for other in places_of(1):
                self.assertEqual(unlike(1, one, other), 0 if one == other else 1)
                self.assertEqual(first_unlike(1, one, other), -1 if one == other else 0)

    def test_size_two(self):
        # In the quarter 0 only its own piece is another, elsewhere the middle one, too.
        self.assertEqual(unlike(2, (0, 0), (1, 1)), 1)
        self.assertEqual(first_unlike(2, (0, 0), (1, 1)), 1)
        self.assertEqual(unlike(2, (0, 0), (2, 1)), 2)
        self.assertEqual(first_unlike(2, (0, 0), (2, 1)), 0)
        self.assertEqual(unlike(2, (0, 0), (3, 0)), 3)
        self.assertEqual(first_unlike(2, (0, 0), (3, 0)), 0)
        self.assertEqual(unlike(2, (1, 1), (2, 2)), 1)
        self.assertEqual(first_unlike(2, (1, 1), (2, 2)), 0)
        self.assertEqual(unlike(2, (3, 2), (3, 3)), 1)
        self.assertEqual(first_unlike(2, (3, 2), (3, 3)), 4)
        self.assertEqual(unlike(2, (2, 1), (3, 1)), 1)
        self.assertEqual(first_unlike(2, (2, 1), (3, 1)), 2)
        self.assertEqual(unlike(2, (0, 3), (0, 2)), 1)
        self.assertEqual(first_unlike(2, (0, 3), (0, 2)), 3)

    def test_drawn_floors(self):
        for size, pictures in ((2, reference.SIZE_TWO), (3, reference.SIZE_THREE)):
            floors = [drawn(picture) for picture in pictures]
            for one, ones in floors:
                for other, others in floors:
                    numbers = [number for number, told in enumerate(ones) if told not in others]
                    self.assertEqual(unlike(size, one, other), len(numbers))
                    self.assertEqual(first_unlike(size, one, other), min(numbers, default=-1))


class GreatFloorsTest(unittest.TestCase):
    SIDE = 2 ** 400
    HALF = 2 ** 399

    def places(self, size):
        half = 2 ** (size - 1)
        middles = [(half, half), (half - 1, half), (half, half - 1), (half - 1, half - 1)]
        return corner_places(size) + some_places(size, 4) + middles + [(half // 2, half - 1), (half // 2, 0)]

    def assert_by_the_quarters(self, size, one, other):
        """The middle piece and the four quarters, each as a floor of its own, tell how many and the first."""
        many = 0
        first = -1
        if reference.quarter_of(size, one) != reference.quarter_of(size, other):
            many = 1
            first = 0
        for quarter in range(4):
            inner_one = reference.left_out(size, one, quarter)
            inner_other = reference.left_out(size, other, quarter)
            many += unlike(size - 1, inner_one, inner_other)
            inner_first = first_unlike(size - 1, inner_one, inner_other)
            if first == -1 and inner_first != -1:
                first = 1 + quarter * count(size - 1) + inner_first
        self.assertEqual(unlike(size, one, other), many)
        self.assertEqual(first_unlike(size, one, other), first)

    def test_the_four_quarters_and_the_middle_piece(self):
        for size in (6, 7, 20, 63, 64, 65, 256, 399, 400):
            for one in self.places(size):
                for other in self.places(size):
                    self.assert_by_the_quarters(size, one, other)

    def test_two_places_and_their_parts_at_every_size(self):
        for one, other in zip(some_places(400, 3), some_places(400, 4)[1:]):
            for size in range(1, 401):
                side = 2 ** size
                self.assert_by_the_quarters(
                    size,
                    (one[0] % side, one[1] % side),
                    (other[0] % side, other[1] % side),
                )

    def test_places_near_one_another(self):
        for spot in some_places(400, 2) + [(self.HALF, self.HALF), (2 ** 200, 2 ** 399 - 1), (0, 0)]:
            for other in near(400, spot):
                self.assert_by_the_quarters(400, spot, other)
                self.assert_by_the_quarters(400, other, spot)

    def test_two_places_of_a_square_of_four(self):
        # Such a square is a part of size 1, and its piece is the only one that is another.
        for column, row in some_places(400, 10):
            one = (column, row)
            for other in ((column ^ 1, row), (column, row ^ 1), (column ^ 1, row ^ 1)):
                self.assertEqual(unlike(400, one, other), 1)
                self.assertEqual(first_unlike(400, one, other), number_of(400, one, other))

    def test_the_corners_of_a_floor(self):
        for size in (1, 2, 3, 64, 399, 400):
            for one in corner_places(size):
                for other in corner_places(size):
                    if one != other:
                        self.assertEqual(unlike(size, one, other), 2 ** size - 1)
                        self.assertEqual(first_unlike(size, one, other), 0)

    def test_the_middle_of_a_floor(self):
        # Only the middle piece is another: each quarter has its place at the middle left out.
        half = self.HALF
        middles = [(half - 1, half - 1), (half, half - 1), (half - 1, half), (half, half)]
        for one in middles:
            for other in middles:
                self.assertEqual(unlike(400, one, other), 0 if one == other else 1)
                self.assertEqual(first_unlike(400, one, other), -1 if one == other else 0)

    def test_a_corner_and_the_middle(self):
        half = self.HALF
        last = self.SIDE - 1
        # In one quarter, from corner to corner of it.
        self.assertEqual(unlike(400, (0, 0), (half - 1, half - 1)), 2 ** 399 - 1)
        self.assertEqual(first_unlike(400, (0, 0), (half - 1, half - 1)), 1)
        self.assertEqual(unlike(400, (last, last), (half, half)), 2 ** 399 - 1)
        self.assertEqual(first_unlike(400, (last, last), (half, half)), 1 + 3 * count(399))
        # In two, with the middle piece besides.
        self.assertEqual(unlike(400, (0, 0), (half, half)), 2 ** 399)
        self.assertEqual(first_unlike(400, (0, 0), (half, half)), 0)

    def test_the_first_is_none_of_the_other(self):
        for size in (20, 64, 400):
            for one in self.places(size):
                for other in self.places(size):
                    if one == other:
                        continue
                    first = first_unlike(size, one, other)
                    told = piece_of(size, one, first)
                    place = told[0] if told[0] != other else told[1]
                    self.assertNotEqual(piece(size, other, place), told)
                    for number in range(max(0, first - 3), first):
                        alike = piece_of(size, one, number)
                        self.assertNotIn(other, alike)
                        self.assertEqual(piece(size, other, alike[0]), alike)

    def test_symmetric_and_never_more_than_by_a_third_place(self):
        for size in (20, 64, 400):
            places = self.places(size)
            many = {(one, other): unlike(size, one, other) for one in places for other in places}
            for one in places:
                for other in places:
                    self.assertEqual(many[one, other], many[other, one])
                    self.assertEqual(many[one, other] == 0, one == other)
                    for third in places:
                        self.assertLessEqual(many[one, other], many[one, third] + many[third, other])


if __name__ == "__main__":
    unittest.main()
