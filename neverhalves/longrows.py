"""Rows that are done again and again, and the values of sums however great these are."""
from itertools import permutations
from math import gcd

from neverhalves.boards import check_board, check_row, in_order, swap_all, swap_once, with_units
from neverhalves.errors import InvalidNumber, InvalidNumbers, InvalidRow
from neverhalves.terms import whole_power


def worth_of(factors):
    """The product (top, bottom) of a list of ((top, bottom), power from 0 on)."""
    top, bottom = 1, 1
    for (over, under), times in factors:
        top = top * whole_power(over, times)
        bottom = bottom * whole_power(under, times)
    return top, bottom


def worth_then(worths, board, place):
    """The value (top, bottom), in lowest terms, of the sum that a swap makes.

    The values are those of the sums and the marks ahead of it, all above 0.
    """
    entries = [(worth, row[place]) for worth, row in zip(worths, board)]
    over, under = worth_of([(worth, entry) for worth, entry in entries if entry > 0])
    more, less = worth_of([(worth, -entry) for worth, entry in entries if entry < 0])
    top = (over * less + more * under) * worths[place][1]
    bottom = under * less * worths[place][0]
    common = gcd(top, bottom)
    return top // common, bottom // common


def worths_made(board, row, numbers):
    """The values that the swaps of a row make, in their order, and those of the sums behind it."""
    worths = [(number, 1) for number in numbers]
    made = []
    for place in row:
        worths[place] = worth_then(worths, board, place)
        made.append(worths[place])
        board = swap_once(board, place)
    return made, worths[:len(board[0])]


def first_back(board, row):
    """What `order_back` tells, without checks."""
    then = swap_all(board, row)
    for order in permutations(range(len(board[0]))):
        if in_order(then, order) == board:
            return order
    return None


def turns(row, order, times):
    """The list of the rows that are done, turn by turn."""
    found = []
    for _ in range(times):
        found.append(row)
        row = tuple([order[place] for place in row])
    return found


def check_long(board, row):
    """Refuses what is no board, then a row that is empty or has what is no place."""
    check_board(board)
    check_row(board, row)
    if not row:
        raise InvalidRow(row)


def check_back(board, row):
    """Refuses as `check_long`, then a row by which the board does not come back; returns the order."""
    check_long(board, row)
    order = first_back(board, row)
    if order is None:
        raise InvalidRow(row)
    return order


def check_times(times):
    """Refuses a number below 1."""
    if times < 1:
        raise InvalidNumber(times)


def values(board, row, numbers):
    """The list of the values (top, bottom) of the sums of the hand behind a row."""
    check_board(board)
    check_row(board, row)
    if len(numbers) != len(board) or any([number < 1 for number in numbers]):
        raise InvalidNumbers(list(numbers))
    return worths_made(board, row, numbers)[1]


def order_back(board, row):
    """The first tuple of places by which the board behind a row is the board; None if there is none."""
    check_long(board, row)
    return first_back(board, row)


def long_row(board, row, times):
    """The row done so many times, each time with the numbers to which the one ahead led."""
    order = check_back(board, row)
    check_times(times)
    return tuple([place for turn in turns(row, order, times) for place in turn])


def long_values(board, row, times):
    """The list of the values, at ones, of the sums that the swaps of the long row make."""
    told = long_row(board, row, times)
    return [top for top, _ in worths_made(board, told, [1] * len(board))[0]]


def comes_round(board, row, most):
    """The least number of times, to the most, behind which the hand is the first one; or None."""
    order = check_back(board, row)
    check_times(most)
    # The columns tell hands apart, and each place of a hand from the others.
    start = with_units(board)
    now = start
    for at, turn in enumerate(turns(row, order, most)):
        now = swap_all(now, turn)
        if now == start:
            return at + 1
    return None
