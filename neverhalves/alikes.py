"""Tables that are alike: that come of one another by swaps and other numbers of the places."""
from itertools import permutations

from neverhalves.boards import check_board, first_renamed, in_order, pieces
from neverhalves.ends import check_ends
from neverhalves.errors import InvalidNumber
from neverhalves.ways import first_row, swaps_of


def table_of(board):
    """The board without its marks."""
    return board[:len(board[0])]


def alike_tables(board):
    """A dict of the first tables, by their names, that are alike with that of a board, each True."""
    waiting = [first_renamed(table_of(board))]
    found = {waiting[0]: True}
    while waiting:
        now = waiting.pop()
        for _, then in swaps_of(now):
            told = first_renamed(then)
            if told not in found:
                found[told] = True
                waiting.append(told)
    return found


def is_tree_table(rows):
    """True if the entries but 0 of a table join its places in one piece without a ring."""
    joined = [line for line in permutations(range(len(rows)), 2) if rows[line[0]][line[1]]]
    # Each two places that are joined were met both ways.
    return len(joined) == 2 * (len(rows) - 1) and len(pieces(rows)) == 1


def source_places(board):
    """What `sources` tells, without checks."""
    return [place for place, row in enumerate(table_of(board)) if min(row) >= 0]


def check_most(most):
    """Refuses a number below 0."""
    if most < 0:
        raise InvalidNumber(most)


def boards_of(board):
    """The ascending list of all `first_renamed` tables that are alike with the table of a board."""
    check_board(board)
    check_ends(board)
    return sorted(alike_tables(board))


def are_alike(one, other):
    """True if two boards have alike tables."""
    check_board(one)
    check_board(other)
    check_ends(one)
    if len(one[0]) != len(other[0]):
        return False
    return first_renamed(table_of(other)) in alike_tables(one)


def row_to_board(one, other, most):
    """The first row of at most so many places behind which both tables have the same `first_renamed`; or None."""
    check_board(one)
    check_board(other)
    check_most(most)
    rows = table_of(other)
    wanted = {in_order(rows, order): True for order in permutations(range(len(rows)))}
    return first_row(table_of(one), swaps_of, lambda now: now in wanted, most)


def least_board(board):
    """The first of `boards_of`."""
    check_board(board)
    check_ends(board)
    return min(alike_tables(board))


def is_tree(board):
    """True if entries but 0 of its table join the places of a board in one piece without a ring."""
    check_board(board)
    return is_tree_table(table_of(board))


def row_to_tree(board, most):
    """The first row of at most so many places behind which the table is a tree; or None."""
    check_board(board)
    check_most(most)
    return first_row(table_of(board), swaps_of, is_tree_table, most)


def sources(board):
    """The ascending list of the places in whose row of the table no entry is below 0."""
    check_board(board)
    return source_places(board)


def directed_round(board):
    """True if steps from place to place, by entries above 0 in the row of each, come round."""
    check_board(board)
    left = list(range(len(board[0])))
    while left:
        ends = [place for place in left if not any([board[place][other] > 0 for other in left])]
        if not ends:
            return True
        left = [place for place in left if place not in ends]
    return False
