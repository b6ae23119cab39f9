"""The rule of the document, written as it reads: quarter by quarter, each as a floor of its own."""


def corners(size):
    """Where each of the four quarters begins."""
    half = 2 ** (size - 1)
    return [(0, 0), (half, 0), (0, half), (half, half)]


def inner_middles(size):
    """For each quarter its place at the middle of the floor, counted within the quarter."""
    last = 2 ** (size - 1) - 1
    return [(last, last), (0, last), (last, 0), (0, 0)]


def moved(place, by):
    return (place[0] + by[0], place[1] + by[1])


def moved_back(place, by):
    return (place[0] - by[0], place[1] - by[1])


def moved_piece(told, by):
    return [moved(place, by) for place in told]


def quarter_of(size, place):
    half = 2 ** (size - 1)
    return (1 if place[0] >= half else 0) + (2 if place[1] >= half else 0)


def middle_piece(size, out):
    return sorted(
        moved(corners(size)[quarter], inner_middles(size)[quarter])
        for quarter in range(4)
        if quarter != quarter_of(size, out)
    )


def left_out(size, out, quarter):
    """The place left out of a quarter, counted within the quarter."""
    if quarter == quarter_of(size, out):
        return moved_back(out, corners(size)[quarter])
    return inner_middles(size)[quarter]


def all_pieces(size, out):
    """All pieces of a small floor."""
    if size == 0:
        return []
    told = [middle_piece(size, out)]
    for quarter in range(4):
        for inner in all_pieces(size - 1, left_out(size, out, quarter)):
            told.append(moved_piece(inner, corners(size)[quarter]))
    return told


def piece_at(size, out, place):
    """The piece that covers a place, on a floor of any size."""
    middle = middle_piece(size, out)
    if place in middle:
        return middle
    quarter = quarter_of(size, place)
    corner = corners(size)[quarter]
    inner = piece_at(size - 1, left_out(size, out, quarter), moved_back(place, corner))
    return moved_piece(inner, corner)
