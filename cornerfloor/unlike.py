"""Two floors of one size, with places left out that may be two, compared."""

from cornerfloor.floors import check_place, check_size, quarter_of
from cornerfloor.numbers import number_of_part

# Each part has one middle piece in both floors, around one point, where no
# other part has its own. So a piece of the one floor is a piece of the other
# just where the middle pieces of its part leave out one quarter.


def check_both(size, one, other):
    """Refuse what is no size or no place left out."""
    check_size(size)
    check_place(size, one)
    check_place(size, other)


def shared_part(one, other):
    """Tell the size of the least part that both places are in."""
    return ((one[0] ^ other[0]) | (one[1] ^ other[1])).bit_length()


def unlike_a_corner(size, out, corner):
    """Tell how many pieces of the part of a size are unlike with a place or a corner left out."""
    told = 0
    corner_out = corner
    for part_size in range(size, 0, -1):
        quarter = quarter_of(part_size, out)
        if quarter != corner_out:
            # The middle piece is unlike, and in the quarter of the corner
            # those between two of its corners. Between any two corners of a
            # part it is the middle piece and twice those of a part of one
            # size less, so 1, 3, 7 and so on.
            told += 1 << (part_size - 1)
            # The quarter of the place has its place at the middle left out.
            corner_out = 3 - quarter
    return told


def unlike(size, one, other):
    """Tell how many pieces of the one floor are none of the other."""
    check_both(size, one, other)
    part_size = shared_part(one, other)
    if part_size == 0:
        return 0
    told = 1
    for out in (one, other):
        told += unlike_a_corner(part_size - 1, out, 3 - quarter_of(part_size, out))
    return told


def first_unlike(size, one, other):
    """Tell the least number of a piece of the one floor that is none of the other, or -1."""
    check_both(size, one, other)
    part_size = shared_part(one, other)
    if part_size == 0:
        return -1
    # Outside of this part all is alike, and in it the middle piece comes first.
    return number_of_part(size, part_size, one)
