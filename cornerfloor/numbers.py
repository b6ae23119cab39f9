"""The numbers of the pieces of a floor, and how many there are."""

from cornerfloor.errors import BadNumber
from cornerfloor.floors import (
    check_covered,
    check_place,
    check_size,
    covering_part,
    is_count,
    left_out_of_quarter,
    middle_piece,
    quarter_of,
)


def pieces_in(size):
    """Tell how many pieces cover a floor of a size: a third of all its places but one."""
    return ((1 << (2 * size)) - 1) // 3


def number_of_part(size, part_size, place):
    """Tell the number of the middle piece of the part of a size that a place is in."""
    number = 0
    for outer in range(size, part_size, -1):
        number += 1 + quarter_of(outer, place) * pieces_in(outer - 1)
    return number


def ways_of_part(quarter_out, inner, cornered):
    """List, by ways, how many pieces of each way a part has, by those of its quarters.

    The quarter with the place left out has those of inner. Each other one has
    its place at the middle of the part left out. That is the corner of it that
    is across from its own: the corner 3 of the quarter 0, the corner 2 of the
    quarter 1 and so on, as corners are counted like the quarters they are in.
    """
    told = list(inner)
    told[quarter_out] += 1
    for quarter in range(4):
        if quarter != quarter_out:
            told = [many + more for many, more in zip(told, cornered[3 - quarter])]
    return told


def count(size):
    """Tell how many pieces cover a floor of a size."""
    check_size(size)
    return pieces_in(size)


def number_of(size, out, place):
    """Tell the number of the piece that covers a place."""
    check_covered(size, out, place)
    part_size, _ = covering_part(size, out, place)
    return number_of_part(size, part_size, place)


def piece_of(size, out, number):
    """List, rising, the three places of the piece of a number."""
    check_size(size)
    check_place(size, out)
    if not is_count(number, pieces_in(size)):
        raise BadNumber("a number is a whole number from 0 to below the count of pieces")
    part_size = size
    part_out = out
    part_number = number
    while part_number > 0:
        quarter, part_number = divmod(part_number - 1, pieces_in(part_size - 1))
        part_out = left_out_of_quarter(part_size, part_out, quarter)
        part_size -= 1
    return middle_piece(part_size, part_out)


def ways(size, out):
    """List, by ways, how many pieces of each way there are."""
    check_size(size)
    check_place(size, out)
    told = [0, 0, 0, 0]
    # The ways of a part of the same size with one of its corners left out, by corners.
    cornered = [told, told, told, told]
    for part_size in range(1, size + 1):
        told = ways_of_part(quarter_of(part_size, out), told, cornered)
        cornered = [ways_of_part(corner, cornered[corner], cornered) for corner in range(4)]
    return told
