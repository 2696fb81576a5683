"""Depths of sums, and which sums stand together in a hand."""
from itertools import combinations

from neverhalves.boards import check_board, check_place, check_row
from neverhalves.ends import check_ends, hands_found, sums_found
from neverhalves.errors import InvalidDepth, InvalidNumber, InvalidSum
from neverhalves.hands import begun, swapped_along
from neverhalves.sums import check_sum
from neverhalves.terms import least_of


def check_told(board, told):
    """Refuses what is no sum of n + m letters, and 0."""
    check_sum(told, len(board))
    if not told:
        raise InvalidSum(told)


def depth_of(told, many):
    """The depth of a sum but 0, by its first so many letters."""
    return tuple([-low for low in least_of(told)[:many]])


def rows_with(board, sums):
    """What `hands_with` tells, without checks."""
    return [
        row for row, hand in hands_found(board).items()
        if all([told in hand[0] for told in sums])
    ]


def depth(board, told):
    """The tuple of the least powers of the first n letters of a sum, with other signs."""
    check_board(board)
    check_told(board, told)
    return depth_of(told, len(board[0]))


def depths(board):
    """The ascending list of the depths of all sums of all hands."""
    check_board(board)
    check_ends(board)
    return sorted(set([depth_of(told, len(board[0])) for told in sums_found(board)]))


def sums_of_depth(board, told):
    """The ascending list of the sums of all hands that have a depth."""
    check_board(board)
    many = len(board[0])
    if len(told) != many:
        raise InvalidDepth(told)
    check_ends(board)
    return [one for one in sums_found(board) if depth_of(one, many) == told]


def go_together(board, one, other):
    """True if two sums stand in some hand."""
    check_board(board)
    check_told(board, one)
    check_told(board, other)
    check_ends(board)
    return bool(rows_with(board, [one, other]))


def hands_with(board, sums):
    """The list of the rows of `all_rows` to hands in which each sum of a list stands."""
    check_board(board)
    for told in sums:
        check_told(board, told)
    check_ends(board)
    return rows_with(board, sums)


def lots_together(board, many):
    """The number of the lots of so many unlike sums that stand together in some hand."""
    check_board(board)
    if not 0 <= many <= len(board[0]):
        raise InvalidNumber(many)
    check_ends(board)
    lots = {}
    for hand in hands_found(board).values():
        told = sorted(hand[0])
        for lot in combinations(told, many):
            lots[lot] = True
    return len(lots)


def partner(board, row, place):
    """The sum at a place of the hand one swap there from the one behind a row."""
    check_board(board)
    check_row(board, row)
    check_place(board, place)
    return swapped_along(begun(board), row + (place,))[0][place]
