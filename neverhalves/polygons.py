"""Cuts of polygons into triangles: their boards, and the sums of all diagonals and sides."""
from itertools import combinations

from neverhalves.errors import InvalidCut, InvalidDiagonal, InvalidNumber, InvalidPlace
from neverhalves.hands import begun
from neverhalves.packs import swapped_along
from neverhalves.terms import letter_of
from neverhalves.ways import first_row

LEAST_CORNERS = 4
MOST_CORNERS = 7


def check_corners(corners):
    """Refuses a number of corners that polygons have not here."""
    if not LEAST_CORNERS <= corners <= MOST_CORNERS:
        raise InvalidNumber(corners)


def check_cut(corners, cut):
    """Refuses a wrong number of corners, then what is no cut."""
    check_corners(corners)
    if not cuts_all(corners, cut):
        raise InvalidCut(cut)


def check_cut_place(cut, place):
    """Refuses what is no place of a cut."""
    if not 0 <= place < len(cut):
        raise InvalidPlace(place)


def lines_between(corners):
    """The ascending list of all diagonals and sides."""
    return list(combinations(range(corners), 2))


def is_side(corners, line):
    """True if the corners of a line are side by side."""
    return line[1] - line[0] in (1, corners - 1)


def sides_of(corners):
    """The ascending list of the sides."""
    return [line for line in lines_between(corners) if is_side(corners, line)]


def diagonals_of(corners):
    """The ascending list of the diagonals."""
    return [line for line in lines_between(corners) if not is_side(corners, line)]


def do_cross(one, other):
    """True if two diagonals cross."""
    return one[0] < other[0] < one[1] < other[1] or other[0] < one[0] < other[1] < one[1]


def crosses_any(line, cut):
    """True if a line crosses a diagonal of a cut."""
    return any([do_cross(line, own) for own in cut])


def cuts_all(corners, told):
    """What `is_cut` tells, without checks."""
    right = {line: True for line in diagonals_of(corners)}
    if len(told) != corners - 3 or len(set(told)) != len(told):
        return False
    return all([line in right and not crosses_any(line, told) for line in told])


def triangles_of(corners, cut):
    """The list of the triangles of a cut, ascending tuples of corners."""
    lines = sides_of(corners) + list(cut)
    return [
        (low, middle, high) for low, middle, high in combinations(range(corners), 3)
        if (low, middle) in lines and (middle, high) in lines and (low, high) in lines
    ]


def flipped(corners, cut, place):
    """What `exchanged` tells, without checks."""
    low, high = cut[place]
    # Two triangles have both ends of the diagonal, each with one corner more.
    ends = []
    for triangle in triangles_of(corners, cut):
        if low in triangle and high in triangle:
            ends.append(sum(triangle) - low - high)
    return cut[:place] + (tuple(sorted(ends)),) + cut[place + 1:]


def flips_of(corners, cut):
    """The list of the tuples (place, the cut exchanged there)."""
    return [(place, flipped(corners, cut, place)) for place in range(len(cut))]


def board_by(corners, cut, sides):
    """What `board_of` tells, without checks."""
    counts = {}
    for low, middle, high in triangles_of(corners, cut):
        first, second, third = (low, middle), (middle, high), (low, high)
        for ahead, behind in ((first, second), (second, third), (third, first)):
            counts[(ahead, behind)] = counts.get((ahead, behind), 0) + 1
            counts[(behind, ahead)] = counts.get((behind, ahead), 0) - 1
    lines = list(cut) + (sides_of(corners) if sides else [])
    return tuple([tuple([counts.get((line, other), 0) for other in cut]) for line in lines])


def step_towards(corners, cut, told):
    """The tuple (place, exchanged cut) of an exchange that brings a cut nearer to a diagonal it has not."""
    # A diagonal that crosses the told one goes, and one from the first corner of that comes.
    steps = [
        (place, further) for place, further in flips_of(corners, cut)
        if do_cross(cut[place], told) and told[0] in further[place]
    ]
    return steps[0]


def row_towards(corners, cut, told):
    """A row of exchanges from a cut to one with a diagonal, and the place of it there."""
    row = []
    while told not in cut:
        place, cut = step_towards(corners, cut, told)
        row.append(place)
    return tuple(row), cut.index(told)


def sum_of_line(corners, cut, told, sides):
    """What `diagonal_sum` tells, without checks."""
    board = board_by(corners, cut, sides)
    if not is_side(corners, told):
        row, place = row_towards(corners, cut, told)
        return swapped_along(begun(board), row)[0][place]
    if sides:
        return letter_of(len(cut) + sides_of(corners).index(told), len(board))
    return (((0,) * len(cut), 1),)


def is_cut(corners, told):
    """True if a tuple of tuples of two integers is a cut."""
    check_corners(corners)
    return cuts_all(corners, told)


def cuts(corners):
    """The ascending list of all cuts that ascend themselves."""
    check_corners(corners)
    found = [()]
    for _ in range(corners - 3):
        found = [
            cut + (line,) for cut in found for line in diagonals_of(corners)
            if not crosses_any(line, cut) and (not cut or cut[-1] < line)
        ]
    return found


def exchanged(corners, cut, place):
    """The cut with the other diagonal of two triangles in the place of the one at a place."""
    check_cut(corners, cut)
    check_cut_place(cut, place)
    return flipped(corners, cut, place)


def board_of(corners, cut, sides):
    """The board whose places are the diagonals of a cut, with the sides as marks if they are wanted."""
    check_cut(corners, cut)
    return board_by(corners, cut, sides)


def diagonal_sum(corners, cut, told, sides):
    """The sum of any diagonal or side, by the letters of `board_of`."""
    check_cut(corners, cut)
    if told not in lines_between(corners):
        raise InvalidDiagonal(told)
    return sum_of_line(corners, cut, told, sides)


def lengths(corners, cut):
    """The list of the lists of the values of all pairs of corners, each letter being 1."""
    check_cut(corners, cut)
    rows = [[0] * corners for _ in range(corners)]
    for low, high in lines_between(corners):
        worth = sum([coefficient for _, coefficient in sum_of_line(corners, cut, (low, high), False)])
        rows[low][high] = worth
        rows[high][low] = worth
    return rows


def row_to(corners, cut, other):
    """The first row of exchanges from a cut to one with the diagonals of another one, in any order."""
    check_cut(corners, cut)
    check_cut(corners, other)
    wanted = sorted(other)
    return first_row(
        cut,
        lambda now: flips_of(corners, now),
        lambda then: sorted(then) == wanted,
        None,
    )
