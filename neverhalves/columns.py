"""Columns: what becomes of the marks of the unit board; green places and full rows."""
from neverhalves.boards import check_board, check_row, swap_all, swap_once, with_units
from neverhalves.errors import InvalidNumber, InvalidRow
from neverhalves.ways import column_lot, first_row


def units_behind(board, row):
    """The board to which a row leads from the unit board of the table."""
    return swap_all(with_units(board), row)


def columns_of(units):
    """The list of the columns in the last n rows of a board."""
    rows = units[-len(units[0]):]
    return list(zip(*rows))


def is_green_at(units, place):
    """True if the column of a place, in the last n rows of a board, has an entry above 0."""
    return any([row[place] > 0 for row in units[-len(units[0]):]])


def green_places(units):
    """The ascending list of the green places of a board with such last rows."""
    return [place for place in range(len(units[0])) if is_green_at(units, place)]


def green_swaps(units):
    """The list of the tuples (place, the board swapped there), green places alone."""
    return [(place, swap_once(units, place)) for place in green_places(units)]


def red_index(board, row):
    """What `first_red` tells, without checks."""
    now = with_units(board)
    for at, place in enumerate(row):
        if not is_green_at(now, place):
            return at
        now = swap_once(now, place)
    return None


def is_done(board, row):
    """What `is_full` tells, without checks."""
    return red_index(board, row) is None and not green_places(units_behind(board, row))


def check_length(length):
    """Refuses a number below 0."""
    if length < 0:
        raise InvalidNumber(length)


def columns(board, row):
    """The list of the columns behind a row."""
    check_board(board)
    check_row(board, row)
    return columns_of(units_behind(board, row))


def greens(board, row):
    """The ascending list of the places that are green behind a row."""
    check_board(board)
    check_row(board, row)
    return green_places(units_behind(board, row))


def is_green(board, row):
    """True if each swap of a row is at a place that is green just ahead of it."""
    check_board(board)
    check_row(board, row)
    return red_index(board, row) is None


def is_full(board, row):
    """True if a row is green, and no place is green behind it."""
    check_board(board)
    check_row(board, row)
    return is_done(board, row)


def first_red(board, row):
    """The index of the first swap of a row at a place that is red by then; None if there is none."""
    check_board(board)
    check_row(board, row)
    return red_index(board, row)


def full_rows(board, length):
    """The ascending list of all full green rows of a length."""
    check_board(board)
    check_length(length)
    found = [((), with_units(board))]
    for _ in range(length):
        found = [(row + (place,), then) for row, now in found for place, then in green_swaps(now)]
    return [row for row, now in found if not green_places(now)]


def shortest_full(board, most):
    """The first full green row of at most so many places, None if there is none."""
    check_board(board)
    check_length(most)
    return first_row(with_units(board), green_swaps, lambda now: not green_places(now), most)


def last_order(board, row):
    """The tuple that tells at which index the column of each place has -1, behind a full green row."""
    check_board(board)
    check_row(board, row)
    if not is_done(board, row):
        raise InvalidRow(row)
    return tuple([column.index(-1) for column in columns_of(units_behind(board, row))])


def by_columns(board, row, other):
    """True if the columns behind two rows are, as lots, the same."""
    check_board(board)
    check_row(board, row)
    check_row(board, other)
    return column_lot(units_behind(board, row)) == column_lot(units_behind(board, other))
