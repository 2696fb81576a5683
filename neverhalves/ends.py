"""Which boards have finitely many hands, of what types, and the rows that lead to all their hands."""
from neverhalves.boards import check_board, check_row, swap_all, with_units
from neverhalves.errors import Endless
from neverhalves.hands import begun
from neverhalves.kinds import is_heavy, kinds_of, lots_of, minor_of, piece_tables
from neverhalves.packs import sums_of_walk
from neverhalves.walks import walked
from neverhalves.ways import first_row, row_to_columns, swaps_of

# Up to so many places the minors of a table tell whether there is an end.
MOST_PLACES = 4


def heavy_row(rows):
    """The first row behind which a table is heavy, shorter ones first, then ascending; None if none."""
    if len(rows) <= MOST_PLACES and minor_of(rows):
        return None
    return first_row(rows, swaps_of, is_heavy, None)


def first_heavy(board):
    """The first row behind which a board is heavy, None if there is none."""
    best = None
    # A swap in another piece helps nothing, so the first row stays in one piece.
    for piece, rows in piece_tables(board):
        row = heavy_row(rows)
        if row is not None:
            told = tuple([piece[place] for place in row])
            if best is None or (len(told), told) < (len(best), best):
                best = told
    return best


def has_no_end(board):
    """What `is_endless` tells, without checks."""
    return any([
        not minor_of(rows) if len(rows) <= MOST_PLACES else heavy_row(rows) is not None
        for _, rows in piece_tables(board)
    ])


def check_ends(board):
    """Refuses a board that has endlessly many hands."""
    row = first_heavy(board)
    if row is not None:
        raise Endless(row)


def is_endless(board):
    """True if the board has endlessly many hands."""
    check_board(board)
    return has_no_end(board)


def endless_row(board):
    """The first row behind which two entries, multiplied, are below -3; None if there is none."""
    check_board(board)
    return first_heavy(board)


def shows_endless(board, row):
    """True if two entries, multiplied, are below -3 behind the whole row."""
    check_board(board)
    check_row(board, row)
    return is_heavy(swap_all(board, row))


def types(board):
    """The ascending list of the tuples (type, n), one for each piece."""
    check_board(board)
    check_ends(board)
    return kinds_of(board)


def how_many_hands(board):
    """How many hands there are, but for order."""
    check_board(board)
    check_ends(board)
    # As many as lots of as many sums as there are places.
    return lots_of(board)[-1]


def how_many_sums(board):
    """How many sums all hands have together."""
    check_board(board)
    check_ends(board)
    return lots_of(board)[1]


def all_rows(board):
    """The list of the first rows that lead to all hands, each, but for order, once."""
    check_board(board)
    check_ends(board)
    return walked(board).rows


def sums_found(board):
    """What `all_sums` tells, without checks."""
    return sorted(sums_of_walk(begun(board)[0], board, walked(board)))


def all_sums(board):
    """The ascending list of the sums of all hands."""
    check_board(board)
    check_ends(board)
    return sums_found(board)


def row_between(board, row, other):
    """The first row that leads, but for order, from the hand behind a row to that behind another one."""
    check_board(board)
    check_row(board, row)
    check_row(board, other)
    check_ends(board)
    units = with_units(board)
    return row_to_columns(swap_all(units, row), swap_all(units, other))


def farthest(board):
    """The last of `all_rows`."""
    check_board(board)
    check_ends(board)
    return walked(board).rows[-1]
