"""Heights and shapes, and the sums that they tell."""
from neverhalves.boards import check_board, check_row, swap_once, turned, with_units
from neverhalves.columns import is_green_at
from neverhalves.ends import check_ends
from neverhalves.errors import InvalidHeight, InvalidNumbers, InvalidSum
from neverhalves.packs import swapped_along
from neverhalves.sums import check_sum, is_sum
from neverhalves.terms import least_of, moved, with_powers
from neverhalves.walks import row_to_heights


def added_up(worths, lines):
    """The tuple of the numbers of some lines, but at least one, each line times its own worth, added."""
    return tuple([
        sum([worth * entry for worth, entry in zip(worths, across)]) for across in zip(*lines)
    ])


def check_height(board, height):
    """Refuses what has not an integer for each place."""
    if len(height) != len(board[0]):
        raise InvalidHeight(height)


def check_shape(board, shape):
    """Refuses what is no shape: a sum of n letters without powers below 0, with the term 1 once."""
    many = len(board[0])
    if not is_sum(shape, many) or ((0,) * many, 1) not in shape or min(least_of(shape)) < 0:
        raise InvalidSum(shape)


def heights_behind(board, row):
    """What `heights` tells, without checks: no sum need be worked out for it."""
    now = with_units(board)
    many = len(board[0])
    told = list(now[many:])
    for place in row:
        # The product in which no mark stands has the degree of both.
        sign = -1 if is_green_at(now, place) else 1
        worths = [max(sign * line[place], 0) for line in now[:many]]
        worths[place] = -1
        told[place] = added_up(worths, told)
        now = swap_once(now, place)
    return told


def marks_alone(told, many):
    """A sum with 1 put for its first so many letters, which are left out."""
    return with_powers(told, lambda powers: powers[many:])


def shapes_behind(board, row):
    """What `shapes` tells, without checks."""
    many = len(board[0])
    # The letters of the places are 1 from the first on.
    one = (((0,) * (2 * many), 1),)
    sums = swapped_along(((one,) * many, with_units(board)), row)[0]
    return [marks_alone(told, many) for told in sums]


def shape_put(board, shape):
    """A shape with, for each letter, the product of all letters to the powers of its column."""
    columns = list(zip(*board))
    return with_powers(shape, lambda powers: added_up(powers, columns))


def sum_made(board, height, shape):
    """What `sum_at` tells, without checks."""
    told = shape_put(board, shape)
    if not told:
        return ()
    spare = least_of(told)[len(board[0]):]
    return moved(told, tuple(height) + tuple([-low for low in spare]), 1)


def heights(board, row):
    """The list of the heights behind a row."""
    check_board(board)
    check_row(board, row)
    return heights_behind(board, row)


def shapes(board, row):
    """The list of the shapes behind a row."""
    check_board(board)
    check_row(board, row)
    return shapes_behind(board, row)


def height_of(board, told):
    """The degree that all terms of a sum of 2 n letters have, None if they have no such one."""
    check_board(board)
    check_sum(told, 2 * len(board[0]))
    degrees = with_units(board)[len(board[0]):] + turned(board)
    found = sorted(set([added_up(powers, degrees) for powers, _ in told]))
    if len(found) != 1:
        return None
    return found[0]


def shape_of(board, told):
    """A sum of 2 n letters with 1 put for the first n ones, as a sum of the others."""
    check_board(board)
    check_sum(told, 2 * len(board[0]))
    return marks_alone(told, len(board[0]))


def determinant(rows):
    """The determinant of a square."""
    many = len(rows)
    if not many or any([len(row) != many for row in rows]):
        raise InvalidNumbers(list(rows))
    lines = [list(row) for row in rows]
    sign, ahead = 1, 1
    for at in range(many):
        fit = [place for place in range(at, many) if lines[place][at]]
        if not fit:
            return 0
        if fit[0] != at:
            lines[at], lines[fit[0]] = lines[fit[0]], lines[at]
            sign = -sign
        lead = lines[at]
        for other in range(at + 1, many):
            line = lines[other]
            # All these are determinants of parts of the square, so no rest is left.
            lines[other] = [
                (entry * lead[at] - line[at] * across) // ahead for entry, across in zip(line, lead)
            ]
        ahead = lead[at]
    return sign * ahead


def sum_at(board, height, shape):
    """The sum of n + m letters that a height and a shape tell."""
    check_board(board)
    check_height(board, height)
    check_shape(board, shape)
    return sum_made(board, height, shape)


def row_to_height(board, height):
    """The first row to a hand in which a sum has a height, None if no hand has."""
    check_board(board)
    check_height(board, height)
    check_ends(board)
    return row_to_heights(board, [height])


def hand_of_heights(board, told):
    """The first row to a hand among whose heights all of a list are, None if there is none."""
    check_board(board)
    for height in told:
        check_height(board, height)
    check_ends(board)
    return row_to_heights(board, told)
