"""Which piece covers a place of a floor."""

from cornerfloor.errors import BadFloor, BadPlace

LARGEST_SIZE = 400


def is_count(value, limit):
    """Tell whether a value is a whole number from 0 to below a limit."""
    # True and False are integers to Python, but no numbers here.
    return isinstance(value, int) and not isinstance(value, bool) and 0 <= value < limit


def is_place(size, value):
    """Tell whether a value is a place of a floor of a size."""
    if not isinstance(value, tuple) or len(value) != 2:
        return False
    column, row = value
    side = 1 << size
    return is_count(column, side) and is_count(row, side)


def check_size(size):
    """Refuse what is no size of a floor."""
    if not is_count(size, LARGEST_SIZE + 1):
        raise BadFloor("a size is a whole number from 0 to 400")


def check_place(size, place):
    """Refuse what is no place of a floor of a size."""
    if not is_place(size, place):
        raise BadPlace("a place is a pair of a column and a row of the floor")


def quarter_of(size, place):
    """Tell in which quarter a place is, of the part of a size that it is in.

    The floor, its quarters, their quarters and so on are its parts. A part's
    columns and rows begin at multiples of its side, so the size of the part
    and one place in it tell which one is meant.
    """
    column, row = place
    return (column >> (size - 1) & 1) + 2 * (row >> (size - 1) & 1)


def middle_places(size, place):
    """List, by quarters, the four places at the middle of the part of a size that a place is in."""
    column, row = place
    half = 1 << (size - 1)
    upper_column = (column >> size << size) + half
    upper_row = (row >> size << size) + half
    return [
        (upper_column - 1, upper_row - 1),
        (upper_column, upper_row - 1),
        (upper_column - 1, upper_row),
        (upper_column, upper_row),
    ]


def middle_piece(size, out):
    """List, rising, the places of the middle piece of the part of a size with a place left out."""
    quarter_out = quarter_of(size, out)
    middle = middle_places(size, out)
    return sorted([middle[quarter] for quarter in range(4) if quarter != quarter_out])


def left_out_of_quarter(size, out, quarter):
    """Tell which place is left out of a quarter of the part of a size with a place left out."""
    if quarter == quarter_of(size, out):
        return out
    return middle_places(size, out)[quarter]


def check_covered(size, out, place):
    """Refuse what is no size, no place left out, or no place that a piece covers."""
    check_size(size)
    check_place(size, out)
    check_place(size, place)
    if place == out:
        raise BadPlace("the place that is left out is covered by no piece")


def covering_part(size, out, place):
    """Tell the size, and the place left out, of the part whose middle piece covers a place."""
    part_size = size
    part_out = out
    # The place is never the one left out of its part, so this ends at size 1.
    while place not in middle_piece(part_size, part_out):
        part_out = left_out_of_quarter(part_size, part_out, quarter_of(part_size, place))
        part_size -= 1
    return part_size, part_out


def piece(size, out, place):
    """List, rising, the three places of the piece that covers a place."""
    check_covered(size, out, place)
    part_size, part_out = covering_part(size, out, place)
    return middle_piece(part_size, part_out)
