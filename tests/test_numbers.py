import inspect
import unittest

import reference
from cornerfloor import numbers
from cornerfloor.floors import piece
from cornerfloor.numbers import count, number_of, piece_of, ways
from reference import corner_places, drawn, near, places_of, some_places


class InterfaceTest(unittest.TestCase):
    ARGUMENTS = {
        "count": ["size"],
        "number_of": ["size", "out", "place"],
        "piece_of": ["size", "out", "number"],
        "ways": ["size", "out"],
    }

    def test_each_is_defined_in_its_file(self):
        for name, arguments in self.ARGUMENTS.items():
            function = getattr(numbers, name)
            self.assertTrue(inspect.isfunction(function))
            self.assertEqual(function.__module__, "cornerfloor.numbers")
            self.assertEqual(list(inspect.signature(function).parameters), arguments)

    def test_the_names_of_the_arguments(self):
        self.assertEqual(count(size=1), 1)
        self.assertEqual(number_of(place=(0, 0), out=(1, 1), size=1), 0)
        self.assertEqual(piece_of(number=0, out=(1, 1), size=1), [(0, 0), (0, 1), (1, 0)])
        self.assertEqual(ways(out=(1, 1), size=1), [0, 0, 0, 1])


class KindsTest(unittest.TestCase):
    """What is told is whole numbers and no truths."""

    def assert_is_a_number(self, told):
        self.assertIs(type(told), int)

    def test_counts(self):
        for size in range(401):
            self.assert_is_a_number(count(size))

    def test_numbers(self):
        for size in (1, 2, 3):
            for out in places_of(size):
                for place in places_of(size):
                    if place != out:
                        self.assert_is_a_number(number_of(size, out, place))
        self.assert_is_a_number(number_of(400, (0, 0), (1, 1)))

    def test_ways(self):
        for size, out in ((0, (0, 0)), (1, (0, 1)), (2, (3, 3)), (3, (2, 5)), (400, (7, 2 ** 399))):
            told = ways(size, out)
            self.assertIs(type(told), list)
            self.assertEqual(len(told), 4)
            for many in told:
                self.assert_is_a_number(many)

    def test_pieces(self):
        for size, out in ((1, (0, 1)), (2, (3, 3)), (3, (2, 5)), (400, (7, 2 ** 399))):
            for number in (0, count(size) // 2, count(size) - 1):
                told = piece_of(size, out, number)
                self.assertIs(type(told), list)
                self.assertEqual(len(told), 3)
                self.assertEqual([type(place) for place in told], [tuple, tuple, tuple])
                self.assertTrue(told[0] < told[1] < told[2])
                for column, row in told:
                    self.assert_is_a_number(column)
                    self.assert_is_a_number(row)


class SmallFloorsTest(unittest.TestCase):
    """Floors of size 0 to 5 whole, for every place left out."""

    def test_the_count(self):
        self.assertEqual([count(size) for size in range(6)], [0, 1, 5, 21, 85, 341])
        for size in range(6):
            for out in places_of(size):
                self.assertEqual(count(size), len(reference.all_pieces(size, out)))

    def test_all_pieces_in_their_turn(self):
        for size in range(6):
            for out in places_of(size):
                told = [piece_of(size, out, number) for number in range(count(size))]
                self.assertEqual(told, list(reference.all_pieces(size, out)))

    def test_the_number_of_each_piece_at_each_of_its_places(self):
        for size in range(6):
            for out in places_of(size):
                for number, told in enumerate(reference.all_pieces(size, out)):
                    for place in told:
                        self.assertEqual(number_of(size, out, place), number)

    def test_there_and_back(self):
        for size in range(4):
            for out in places_of(size):
                for place in places_of(size):
                    if place != out:
                        number = number_of(size, out, place)
                        self.assertEqual(piece_of(size, out, number), piece(size, out, place))

    def test_how_many_of_each_way(self):
        for size in range(6):
            for out in places_of(size):
                many = [0, 0, 0, 0]
                for told in reference.all_pieces(size, out):
                    many[reference.way_of(told)] += 1
                self.assertEqual(ways(size, out), many)


class ByHandTest(unittest.TestCase):
    def assert_as_drawn(self, size, picture):
        out, pieces = drawn(picture)
        self.assertEqual(count(size), len(pieces))
        self.assertEqual([piece_of(size, out, number) for number in range(len(pieces))], pieces)
        for number, told in enumerate(pieces):
            for place in told:
                self.assertEqual(number_of(size, out, place), number)

    def test_size_zero(self):
        self.assertEqual(count(0), 0)
        self.assertEqual(ways(0, (0, 0)), [0, 0, 0, 0])

    def test_size_one(self):
        square = [(0, 0), (1, 0), (0, 1), (1, 1)]
        self.assertEqual(count(1), 1)
        for quarter, out in enumerate(square):
            others = sorted(place for place in square if place != out)
            self.assertEqual(piece_of(1, out, 0), others)
            for place in others:
                self.assertEqual(number_of(1, out, place), 0)
            self.assertEqual(ways(1, out), [int(way == quarter) for way in range(4)])

    def test_size_two(self):
        for picture in reference.SIZE_TWO:
            self.assert_as_drawn(2, picture)

    def test_size_three(self):
        for picture in reference.SIZE_THREE:
            self.assert_as_drawn(3, picture)

    def test_the_ways_of_size_two(self):
        # For each place left out the ways of the pieces 0 to 4, read off a drawing.
        read_off = {
            (0, 0): (0, 0, 2, 1, 0),
            (1, 0): (0, 1, 2, 1, 0),
            (0, 1): (0, 2, 2, 1, 0),
            (1, 1): (0, 3, 2, 1, 0),
            (2, 0): (1, 3, 0, 1, 0),
            (3, 0): (1, 3, 1, 1, 0),
            (2, 1): (1, 3, 2, 1, 0),
            (3, 1): (1, 3, 3, 1, 0),
            (0, 2): (2, 3, 2, 0, 0),
            (1, 2): (2, 3, 2, 1, 0),
            (0, 3): (2, 3, 2, 2, 0),
            (1, 3): (2, 3, 2, 3, 0),
            (2, 2): (3, 3, 2, 1, 0),
            (3, 2): (3, 3, 2, 1, 1),
            (2, 3): (3, 3, 2, 1, 2),
            (3, 3): (3, 3, 2, 1, 3),
        }
        for out in places_of(2):
            by_hand = read_off[out]
            self.assertEqual([reference.way_of(piece_of(2, out, number)) for number in range(5)], list(by_hand))
            self.assertEqual(ways(2, out), [by_hand.count(way) for way in range(4)])

    def test_the_four_ways(self):
        # The way is the quarter that the fourth place is in, column first.
        self.assertEqual(piece_of(1, (1, 0), 0), [(0, 0), (0, 1), (1, 1)])
        self.assertEqual(ways(1, (1, 0)), [0, 1, 0, 0])
        self.assertEqual(piece_of(1, (0, 1), 0), [(0, 0), (1, 0), (1, 1)])
        self.assertEqual(ways(1, (0, 1)), [0, 0, 1, 0])


class GreatFloorsTest(unittest.TestCase):
    SIZES = (6, 20, 63, 64, 65, 256, 399, 400)
    SIDE = 2 ** 400
    HALF = 2 ** 399

    def outs(self, size):
        half = 2 ** (size - 1)
        return corner_places(size) + some_places(size, 2) + [(half, half), (half - 1, half), (half // 2, half - 1)]

    def test_the_count_at_every_size(self):
        for size in range(401):
            self.assertEqual(3 * count(size) + 1, 4 ** size)

    def test_the_middle_piece_is_0(self):
        for size in self.SIZES:
            for out in self.outs(size):
                told = reference.middle_piece(size, out)
                self.assertEqual(piece_of(size, out, 0), told)
                for place in told:
                    self.assertEqual(number_of(size, out, place), 0)

    def test_the_first_and_the_last_of_each_quarter(self):
        last = self.SIDE - 1
        quarter = count(399)
        out = (self.HALF - 1, self.HALF - 1)
        # Down the corners of the floor: a middle piece, then the one of the quarter 0 and so on.
        self.assertEqual(number_of(400, out, (0, 0)), 399)
        self.assertEqual(piece_of(400, out, 399), [(0, 0), (0, 1), (1, 0)])
        self.assertEqual(number_of(400, out, (last, last)), count(400) - 1)
        self.assertEqual(
            piece_of(400, out, count(400) - 1),
            [(last - 1, last), (last, last - 1), (last, last)],
        )
        for number in range(4):
            middle = reference.moved_piece(
                reference.middle_piece(399, reference.left_out(400, out, number)),
                reference.corners(400)[number],
            )
            self.assertEqual(piece_of(400, out, 1 + number * quarter), middle)
            self.assertEqual(number_of(400, out, middle[1]), 1 + number * quarter)

    def test_numbers_follow_the_rule(self):
        for size in self.SIZES:
            for out in self.outs(size):
                for place in some_places(size, 3) + corner_places(size) + near(size, out, 1):
                    if place != out:
                        told = number_of(size, out, place)
                        self.assertEqual(told, reference.number_at(size, out, place))
                        self.assertEqual(piece_of(size, out, told), reference.piece_at(size, out, place))

    def test_numbers_there_and_back(self):
        for size in self.SIZES:
            many = count(size)
            numbers_asked = [0, 1, 2, many // 4, many // 3, many // 2, many - 2, many - 1]
            numbers_asked += [column % many for column, _ in some_places(size, 4)]
            numbers_asked += [column * row % many for column, row in some_places(size, 4)]
            for out in self.outs(size):
                for number in numbers_asked:
                    told = piece_of(size, out, number)
                    for place in told:
                        self.assertEqual(number_of(size, out, place), number)
                    self.assertEqual(piece(size, out, told[0]), told)

    def test_the_quarters_follow_in_their_turn(self):
        for size in (6, 64, 400):
            inner = count(size - 1)
            for out in self.outs(size):
                for quarter, corner in enumerate(reference.corners(size)):
                    inner_out = reference.left_out(size, out, quarter)
                    for number in (0, 1, inner // 5, inner // 2, inner - 1):
                        self.assertEqual(
                            piece_of(size, out, 1 + quarter * inner + number),
                            reference.moved_piece(piece_of(size - 1, inner_out, number), corner),
                        )

    def test_a_greater_floor_number_by_number(self):
        out = (9, 52)
        told = [piece_of(6, out, number) for number in range(count(6))]
        self.assertEqual(told, list(reference.all_pieces(6, out)))


class GreatWaysTest(unittest.TestCase):
    def assert_by_the_quarters(self, size, out):
        told = [0, 0, 0, 0]
        told[reference.quarter_of(size, out)] += 1
        for quarter in range(4):
            inner = ways(size - 1, reference.left_out(size, out, quarter))
            told = [told[way] + inner[way] for way in range(4)]
        self.assertEqual(ways(size, out), told)
        self.assertEqual(sum(told), count(size))

    def test_the_four_quarters_and_the_middle_piece(self):
        for size in (6, 20, 63, 64, 65, 256, 399, 400):
            half = 2 ** (size - 1)
            outs = corner_places(size) + some_places(size, 4)
            for out in outs + [(half, half), (half - 1, half), (half // 2, half - 1)]:
                self.assert_by_the_quarters(size, out)

    def test_the_corners_at_every_size(self):
        # Every quarter of a floor with a corner left out is one, too.
        told = [[0, 0, 0, 0] for _ in range(4)]
        for size in range(1, 401):
            inner = told
            told = [ways(size, out) for out in corner_places(size)]
            for corner in range(4):
                quarters = [inner[3 - quarter] for quarter in range(4)]
                quarters[corner] = inner[corner]
                many = [sum(of_quarter[way] for of_quarter in quarters) for way in range(4)]
                many[corner] += 1
                self.assertEqual(told[corner], many)

    def test_a_place_and_its_parts_at_every_size(self):
        for place in some_places(400, 2):
            for size in range(1, 401, 7):
                side = 2 ** size
                self.assert_by_the_quarters(size, (place[0] % side, place[1] % side))

    def test_a_corner_of_the_greatest_floor(self):
        # Opposite ways differ by one less than a row of places; the other two are as many.
        for corner, out in enumerate(corner_places(400)):
            told = ways(400, out)
            beside = [told[way] for way in range(4) if way not in (corner, 3 - corner)]
            self.assertEqual(beside, [count(399), count(399)])
            self.assertEqual(told[corner] - told[3 - corner], 2 ** 400 - 1)
            self.assertEqual(sum(told), count(400))

    def test_a_floor_that_is_turned(self):
        # A quarter turn of the floor turns the ways, too.
        size = 50
        last = 2 ** size - 1
        turned_to = [1, 3, 0, 2]
        for column, row in some_places(size, 10):
            told = ways(size, (column, row))
            turned = ways(size, (last - row, column))
            for way in range(4):
                self.assertEqual(turned[turned_to[way]], told[way])


class NewListsTest(unittest.TestCase):
    def test_each_piece_is_a_list_of_its_own(self):
        for size in (1, 2, 3, 400):
            for number in {0, count(size) // 2, count(size) - 1}:
                one = piece_of(size, (0, 0), number)
                other = piece_of(size, (0, 0), number)
                kept = list(one)
                self.assertEqual(one, other)
                self.assertIsNot(one, other)
                one.clear()
                other[0] = None
                self.assertEqual(piece_of(size, (0, 0), number), kept)
                self.assertEqual(piece(size, (0, 0), kept[0]), kept)

    def test_each_list_of_ways_is_a_list_of_its_own(self):
        for size in (0, 1, 2, 3, 400):
            one = ways(size, (0, 0))
            other = ways(size, (0, 0))
            kept = list(one)
            self.assertEqual(one, other)
            self.assertIsNot(one, other)
            one.clear()
            other[0] = None
            self.assertEqual(ways(size, (0, 0)), kept)


if __name__ == "__main__":
    unittest.main()
