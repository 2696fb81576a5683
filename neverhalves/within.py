"""Sums written by the letters of another hand, and what bars that."""
from neverhalves.boards import check_board, check_row, swap_all
from neverhalves.hands import begun, letters_from, swapped_along
from neverhalves.sums import check_sum
from neverhalves.terms import put_into


def put_hand(board, row, told):
    """A sum with the sums of the hand behind a row put for its first letters; None if it is none."""
    sums = swapped_along(begun(board), row)[0]
    return put_into(told, list(sums) + letters_from(len(sums), len(board)), len(board))


def written_by(board, row, told):
    """What `written` tells, without checks."""
    # The way back leads to the first letters, told by the letters of the hand behind the row.
    return put_hand(swap_all(board, row), row[::-1], told)


def first_barring(board, told):
    """What `barring` tells, without checks."""
    for place in range(len(board[0])):
        if written_by(board, (place,), told) is None:
            return place
    return None


def written(board, row, told):
    """The sum of the letters of the hand behind a row that is a sum of the first letters; or None."""
    check_board(board)
    check_row(board, row)
    check_sum(told, len(board))
    return written_by(board, row, told)


def is_let(board, told):
    """True if a sum is one by the letters of each hand that is one swap away."""
    check_board(board)
    check_sum(told, len(board))
    return first_barring(board, told) is None


def barring(board, told):
    """The least place behind which a sum is none, None if there is none."""
    check_board(board)
    check_sum(told, len(board))
    return first_barring(board, told)


def as_product(board, row, told):
    """The tuple of the powers if what is written has one term, with the coefficient 1; or None."""
    check_board(board)
    check_row(board, row)
    check_sum(told, len(board))
    result = written_by(board, row, told)
    if result is None or len(result) != 1 or result[0][1] != 1:
        return None
    return result[0][0]


def read_back(board, row, told):
    """The sum of the first letters that is a sum of the letters of the hand behind a row; or None."""
    check_board(board)
    check_row(board, row)
    check_sum(told, len(board))
    return put_hand(board, row, told)
