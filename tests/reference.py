"""The rule of the document, written as it reads: quarter by quarter, each as a floor of its own.

Also floors and places that several tests ask about.
"""

from functools import lru_cache


def places_of(size):
    side = 2 ** size
    return [(column, row) for column in range(side) for row in range(side)]


def corner_places(size):
    last = 2 ** size - 1
    return [(0, 0), (last, 0), (0, last), (last, last)]


def some_places(size, many):
    """Places spread over a great floor, the same in each run."""
    side = 2 ** size
    found = []
    number = 7
    for _ in range(many):
        number = (number * 3 ** 500 + 12345) % 2 ** 1000
        found.append(((number >> 100) % side, (number >> 550) % side))
    return found


def near(size, place, far=3):
    side = 2 ** size
    return [
        (place[0] + right, place[1] + up)
        for right in range(-far, far + 1)
        for up in range(-far, far + 1)
        if 0 <= place[0] + right < side and 0 <= place[1] + up < side
    ]


def drawn(picture):
    """The left out place and the pieces of a drawn floor, row 0 first.

    A dot is left out; a letter is a piece, and the letters in their turn are the pieces by number.
    """
    out = None
    pieces = {}
    for row, line in enumerate(picture):
        for column, letter in enumerate(line):
            if letter == ".":
                out = (column, row)
            else:
                pieces.setdefault(letter, []).append((column, row))
    return out, [sorted(pieces[letter]) for letter in sorted(pieces)]


SIZE_TWO = (
    (
        ".bcc",
        "bbac",
        "daae",
        "ddee",
    ),
    (
        "bbcc",
        "b.ac",
        "daae",
        "ddee",
    ),
    (
        "bbc.",
        "bacc",
        "daae",
        "ddee",
    ),
    (
        "bbcc",
        "baac",
        "d.ae",
        "ddee",
    ),
    (
        "bbcc",
        "baac",
        "daee",
        "dde.",
    ),
)
SIZE_THREE = (
    (
        "ccddhhii",
        "cbbdhggi",
        "ebffj.gk",
        "eefajjkk",
        "mmnaarss",
        "mlnnrrqs",
        "ollptqqu",
        "ooppttuu",
    ),
    (
        ".cddhhii",
        "ccbdhggi",
        "ebbfjjgk",
        "eeffajkk",
        "mmnaarss",
        "mlnnrrqs",
        "ollptqqu",
        "ooppttuu",
    ),
)


def corners(size):
    """Where each of the four quarters begins."""
    half = 2 ** (size - 1)
    return [(0, 0), (half, 0), (0, half), (half, half)]


def inner_middles(size):
    """For each quarter its place at the middle of the floor, counted within the quarter."""
    last = 2 ** (size - 1) - 1
    return [(last, last), (0, last), (last, 0), (0, 0)]


def moved(place, by):
    return (place[0] + by[0], place[1] + by[1])


def moved_back(place, by):
    return (place[0] - by[0], place[1] - by[1])


def moved_piece(told, by):
    return [moved(place, by) for place in told]


def quarter_of(size, place):
    half = 2 ** (size - 1)
    return (1 if place[0] >= half else 0) + (2 if place[1] >= half else 0)


def middle_piece(size, out):
    return sorted(
        moved(corners(size)[quarter], inner_middles(size)[quarter])
        for quarter in range(4)
        if quarter != quarter_of(size, out)
    )


def left_out(size, out, quarter):
    """The place left out of a quarter, counted within the quarter."""
    if quarter == quarter_of(size, out):
        return moved_back(out, corners(size)[quarter])
    return inner_middles(size)[quarter]


@lru_cache(maxsize=None)
def all_pieces(size, out):
    """All pieces of a small floor, by number."""
    if size == 0:
        return ()
    told = [middle_piece(size, out)]
    for quarter in range(4):
        for inner in all_pieces(size - 1, left_out(size, out, quarter)):
            told.append(moved_piece(inner, corners(size)[quarter]))
    return tuple(told)


def piece_at(size, out, place):
    """The piece that covers a place, on a floor of any size."""
    middle = middle_piece(size, out)
    if place in middle:
        return middle
    quarter = quarter_of(size, place)
    corner = corners(size)[quarter]
    inner = piece_at(size - 1, left_out(size, out, quarter), moved_back(place, corner))
    return moved_piece(inner, corner)


def number_at(size, out, place):
    """The number of the piece that covers a place, on a floor of any size."""
    if place in middle_piece(size, out):
        return 0
    quarter = quarter_of(size, place)
    inner = moved_back(place, corners(size)[quarter])
    before = 1 + quarter * ((4 ** (size - 1) - 1) // 3)
    return before + number_at(size - 1, left_out(size, out, quarter), inner)


def way_of(told):
    """The quarter that a piece does not cover of the four places it is around."""
    column = min(place[0] for place in told)
    row = min(place[1] for place in told)
    four = [(column, row), (column + 1, row), (column, row + 1), (column + 1, row + 1)]
    uncovered = [quarter for quarter, place in enumerate(four) if place not in told]
    assert len(told) == 3 and len(uncovered) == 1
    return uncovered[0]
