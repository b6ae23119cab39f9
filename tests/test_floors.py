import inspect
import unittest

import reference
from cornerfloor import floors
from cornerfloor.floors import piece
from reference import drawn, near, places_of, some_places


class InterfaceTest(unittest.TestCase):
    def test_piece_is_defined_in_its_file(self):
        self.assertTrue(inspect.isfunction(floors.piece))
        self.assertEqual(floors.piece.__module__, "cornerfloor.floors")

    def test_the_names_of_the_arguments(self):
        self.assertEqual(list(inspect.signature(piece).parameters), ["size", "out", "place"])
        self.assertEqual(piece(place=(0, 0), out=(1, 1), size=1), [(0, 0), (0, 1), (1, 0)])


class SmallFloorsTest(unittest.TestCase):
    """Floors of size 0 to 5 whole, for every place left out."""

    def assert_is_a_piece(self, told):
        self.assertIs(type(told), list)
        self.assertEqual(len(told), 3)
        for place in told:
            self.assertIs(type(place), tuple)
            self.assertEqual([type(count) for count in place], [int, int])
        self.assertTrue(told[0] < told[1] < told[2])
        column = min(place[0] for place in told)
        row = min(place[1] for place in told)
        around = {(column + right, row + up) for right in (0, 1) for up in (0, 1)}
        self.assertLess(set(told), around)

    def assert_whole(self, size, out):
        places = places_of(size)
        covered = {}
        for place in places:
            if place == out:
                continue
            told = piece(size, out, place)
            if place in covered:
                # The piece was told for another of its places before.
                self.assertEqual(told, covered[place])
                continue
            self.assert_is_a_piece(told)
            self.assertIn(place, told)
            for one in told:
                self.assertNotIn(one, covered)
                covered[one] = told
        self.assertEqual(set(covered), set(places) - {out})

    def test_each_place_but_the_one_left_out_is_in_just_one_piece(self):
        for size in range(6):
            for out in places_of(size):
                self.assert_whole(size, out)

    def test_the_pieces_are_those_of_the_rule(self):
        for size in range(5):
            for out in places_of(size):
                for told in reference.all_pieces(size, out):
                    for place in told:
                        self.assertEqual(piece(size, out, place), told)


class ByHandTest(unittest.TestCase):
    def assert_as_drawn(self, size, picture):
        out, pieces = drawn(picture)
        for told in pieces:
            for place in told:
                self.assertEqual(piece(size, out, place), told)

    def test_size_one(self):
        square = [(0, 0), (0, 1), (1, 0), (1, 1)]
        for out in square:
            others = [place for place in square if place != out]
            for place in others:
                self.assertEqual(piece(1, out, place), others)

    def test_size_two(self):
        for picture in reference.SIZE_TWO:
            self.assert_as_drawn(2, picture)

    def test_size_three(self):
        for picture in reference.SIZE_THREE:
            self.assert_as_drawn(3, picture)

    def test_places_that_are_not_symmetric(self):
        self.assertEqual(piece(1, (1, 0), (0, 1)), [(0, 0), (0, 1), (1, 1)])
        self.assertEqual(piece(1, (0, 1), (1, 0)), [(0, 0), (1, 0), (1, 1)])
        self.assertEqual(piece(2, (3, 0), (1, 1)), [(1, 1), (1, 2), (2, 2)])
        self.assertEqual(piece(2, (0, 3), (1, 1)), [(1, 1), (2, 1), (2, 2)])


class QuartersTest(unittest.TestCase):
    """Each quarter of a greater floor is covered as a floor of one size less."""

    OUTS = ((0, 0), (31, 63), (32, 31), (63, 32), (17, 50), (40, 5))
    PLACES = ((0, 0), (31, 31), (30, 31), (15, 15), (16, 15), (3, 29), (22, 9), (31, 0), (0, 31))

    def test_the_middle_piece_comes_first(self):
        middles = [(31, 31), (32, 31), (31, 32), (32, 32)]
        for out in self.OUTS:
            others = sorted(
                place for quarter, place in enumerate(middles)
                if quarter != reference.quarter_of(6, out)
            )
            for place in others:
                self.assertEqual(piece(6, out, place), others)

    def test_each_quarter_is_a_floor_of_its_own(self):
        corners = [(0, 0), (32, 0), (0, 32), (32, 32)]
        middles = [(31, 31), (0, 31), (31, 0), (0, 0)]
        for out in self.OUTS:
            for quarter, (column, row) in enumerate(corners):
                inner_out = middles[quarter]
                if quarter == reference.quarter_of(6, out):
                    inner_out = (out[0] - column, out[1] - row)
                for inner in self.PLACES:
                    if inner == inner_out:
                        continue
                    told = [(x + column, y + row) for x, y in piece(5, inner_out, inner)]
                    self.assertEqual(piece(6, out, (inner[0] + column, inner[1] + row)), told)


class GreatFloorsTest(unittest.TestCase):
    SIDE = 2 ** 400
    HALF = 2 ** 399

    def assert_by_the_rule(self, size, out, places):
        for place in places:
            if place != out:
                self.assertEqual(piece(size, out, place), reference.piece_at(size, out, place))

    def test_at_the_corners(self):
        last = self.SIDE - 1
        self.assertEqual(piece(400, (0, 0), (1, 1)), [(0, 1), (1, 0), (1, 1)])
        self.assertEqual(
            piece(400, (0, 0), (last, last)),
            [(last - 1, last), (last, last - 1), (last, last)],
        )
        self.assertEqual(piece(400, (0, 0), (last, 0)), [(last - 1, 0), (last, 0), (last, 1)])
        self.assertEqual(piece(400, (0, 0), (0, last)), [(0, last - 1), (0, last), (1, last)])
        self.assertEqual(piece(400, (last, last), (0, 0)), [(0, 0), (0, 1), (1, 0)])

    def test_around_the_middle(self):
        half = self.HALF
        middles = [(half - 1, half - 1), (half, half - 1), (half - 1, half), (half, half)]
        outs = [(0, 0), (self.SIDE - 1, 0), (0, self.SIDE - 1), (self.SIDE - 1, self.SIDE - 1)]
        for quarter, out in enumerate(outs):
            others = sorted(middles[:quarter] + middles[quarter + 1:])
            for place in others:
                self.assertEqual(piece(400, out, place), others)

    def test_the_middle_of_a_quarter(self):
        half = self.HALF
        middle = 2 ** 398
        self.assertEqual(
            piece(400, (half, 0), (middle, middle - 1)),
            [(middle - 1, middle - 1), (middle - 1, middle), (middle, middle - 1)],
        )

    def test_beside_the_place_left_out(self):
        for out in some_places(400, 20):
            column, row = out[0] - out[0] % 2, out[1] - out[1] % 2
            square = [(column, row), (column, row + 1), (column + 1, row), (column + 1, row + 1)]
            others = [place for place in square if place != out]
            for place in others:
                self.assertEqual(piece(400, out, place), others)

    def test_great_floors_follow_the_rule(self):
        for size in (20, 63, 64, 65, 256, 399, 400):
            last = 2 ** size - 1
            half = 2 ** (size - 1)
            spots = [(0, 0), (last, 0), (0, last), (last, last), (half, half), (half // 2, half - 1)]
            outs = spots + some_places(size, 2)
            for out in outs:
                places = some_places(size, 3) + spots
                places += [(out[0], out[1] ^ 1), (out[1], out[0]), (half - 1, half)]
                self.assert_by_the_rule(size, out, places)

    def test_all_places_near_some_spots_of_the_greatest_floor(self):
        out = some_places(400, 1)[0]
        last = self.SIDE - 1
        for spot in (out, (0, 0), (last, last), (last, 0), (0, last), (self.HALF, self.HALF)):
            self.assert_by_the_rule(400, out, near(400, spot))

    def test_the_same_of_each_of_its_three_places(self):
        out = (self.HALF + 12345, 6789)
        for place in some_places(400, 100):
            told = piece(400, out, place)
            self.assertIn(place, told)
            self.assertEqual(len(told), 3)
            for one in told:
                self.assertEqual(piece(400, out, one), told)

    def test_many_are_told(self):
        # A way that went over the places or the pieces would not end.
        places = some_places(400, 1000)
        out = (1, self.HALF)
        self.assertEqual(len([piece(400, out, place) for place in places if place != out]), 1000)


class NewListsTest(unittest.TestCase):
    def test_each_call_tells_a_list_of_its_own(self):
        for size in (1, 2, 3, 400):
            for place in ((0, 1), (1, 1), (1, 0)):
                one = piece(size, (0, 0), place)
                other = piece(size, (0, 0), place)
                self.assertEqual(one, other)
                self.assertIsNot(one, other)
                one.clear()
                other[0] = None
                self.assertEqual(piece(size, (0, 0), place), reference.piece_at(size, (0, 0), place))

    def test_places_of_one_piece_tell_lists_of_their_own(self):
        one = piece(3, (5, 2), (3, 3))
        other = piece(3, (5, 2), (4, 4))
        self.assertEqual(one, other)
        one.append((0, 0))
        self.assertEqual(other, [(3, 3), (3, 4), (4, 4)])


if __name__ == "__main__":
    unittest.main()
