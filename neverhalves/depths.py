"""Depths of sums, and which sums stand together in a hand."""
from neverhalves.boards import check_board, check_place, check_row
from neverhalves.ends import check_ends
from neverhalves.errors import InvalidDepth, InvalidNumber, InvalidSum
from neverhalves.hands import begun
from neverhalves.kinds import lots_of
from neverhalves.packs import sum_along
from neverhalves.sums import check_sum
from neverhalves.terms import least_of, letter_of
from neverhalves.walks import depths_of_walk, walked


def check_told(board, told):
    """Refuses what is no sum of n + m letters, and 0."""
    check_sum(told, len(board))
    if not told:
        raise InvalidSum(told)


def depth_of(told, many):
    """The depth of a sum but 0, by its first so many letters."""
    return tuple([-low for low in least_of(told)[:many]])


def sum_at_number(board, walk, number):
    """The sum that has a number in a walk."""
    if number < len(board[0]):
        return letter_of(number, len(board))
    at, place = walk.origins[number]
    return sum_along(begun(board), walk.rows[at] + (place,), place)


def numbers_at(depths_found, told):
    """The list of the numbers of the sums that have a depth."""
    return [number for number, own in enumerate(depths_found) if own == told]


def number_of_sum(board, walk, depths_found, told):
    """The number of a sum in a walk, None if it is none of its sums."""
    for number in numbers_at(depths_found, depth_of(told, len(board[0]))):
        if sum_at_number(board, walk, number) == told:
            return number
    return None


def rows_with(board, sums):
    """What `hands_with` tells, without checks."""
    walk = walked(board)
    found = depths_of_walk(walk)
    numbers = [number_of_sum(board, walk, found, told) for told in sums]
    return [
        row for row, hand in zip(walk.rows, walk.hands)
        if all([number in hand for number in numbers])
    ]


def depth(board, told):
    """The tuple of the least powers of the first n letters of a sum, with other signs."""
    check_board(board)
    check_told(board, told)
    return depth_of(told, len(board[0]))


def depths(board):
    """The ascending list of the depths of all sums of all hands."""
    check_board(board)
    check_ends(board)
    return sorted(set(depths_of_walk(walked(board))))


def sums_of_depth(board, told):
    """The ascending list of the sums of all hands that have a depth."""
    check_board(board)
    many = len(board[0])
    if len(told) != many:
        raise InvalidDepth(told)
    check_ends(board)
    walk = walked(board)
    numbers = numbers_at(depths_of_walk(walk), told)
    return sorted([sum_at_number(board, walk, number) for number in numbers])


def go_together(board, one, other):
    """True if two sums stand in some hand."""
    check_board(board)
    check_told(board, one)
    check_told(board, other)
    check_ends(board)
    return bool(rows_with(board, [one, other]))


def hands_with(board, sums):
    """The list of the rows of `all_rows` to hands in which each sum of a list stands."""
    check_board(board)
    for told in sums:
        check_told(board, told)
    check_ends(board)
    return rows_with(board, sums)


def lots_together(board, many):
    """The number of the lots of so many unlike sums that stand together in some hand."""
    check_board(board)
    if not 0 <= many <= len(board[0]):
        raise InvalidNumber(many)
    check_ends(board)
    return lots_of(board)[many]


def partner(board, row, place):
    """The sum at a place of the hand one swap there from the one behind a row."""
    check_board(board)
    check_row(board, row)
    check_place(board, place)
    return sum_along(begun(board), row + (place,), place)
