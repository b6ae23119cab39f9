import unittest

from cornerfloor import errors


class ErrorsTest(unittest.TestCase):
    def test_a_floor_error_is_a_value_error(self):
        self.assertEqual(errors.FloorError.__bases__, (ValueError,))

    def test_the_others_stand_straight_under_it(self):
        for error in (errors.BadFloor, errors.BadPlace, errors.BadNumber):
            self.assertEqual(error.__bases__, (errors.FloorError,))

    def test_each_is_defined_in_its_file(self):
        for name in ("FloorError", "BadFloor", "BadPlace", "BadNumber"):
            error = getattr(errors, name)
            self.assertEqual(error.__module__, "cornerfloor.errors")
            self.assertEqual(error.__name__, name)


if __name__ == "__main__":
    unittest.main()
