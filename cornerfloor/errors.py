"""The refusals that the program tells."""


class FloorError(ValueError):
    """What was handed in is refused."""


class BadFloor(FloorError):
    """There is no floor of this size."""


class BadPlace(FloorError):
    """This is no place of the floor, or not one that can be asked for."""


class BadNumber(FloorError):
    """There is no piece of this number."""
