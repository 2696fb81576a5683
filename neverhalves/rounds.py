"""Rounds of hands: how long they are, and how the hands of a board hang together."""
from itertools import combinations

from neverhalves.boards import check_board, check_place
from neverhalves.ends import check_ends
from neverhalves.errors import InvalidPlace
from neverhalves.walks import walked

# How many swaps at two places by turns lead back, by what their entries multiplied are.
LENGTHS = {0: 4, -1: 5, -2: 6, -3: 8}


def length_at(board, place, other):
    """How many swaps at two places by turns lead back, but for order; None if none do."""
    return LENGTHS.get(board[place][other] * board[other][place])


def round_length(board, place, other):
    """The least number of swaps, by turns at two places, that lead back, but for order; or None."""
    check_board(board)
    check_place(board, place)
    check_place(board, other)
    if place == other:
        raise InvalidPlace(other)
    return length_at(board, place, other)


def web(board):
    """The ascending list of the pairs of indexes in `all_rows` of hands one swap from one another."""
    check_board(board)
    check_ends(board)
    links = walked(board).links
    return sorted([(at, other) for at, steps in enumerate(links) for other in steps if at < other])


def rings(board):
    """The ascending list of the tuples (length, how many rounds by two places have it)."""
    check_board(board)
    check_ends(board)
    counts = {}
    pairs = list(combinations(range(len(board[0])), 2))
    for now in walked(board).tables:
        for place, other in pairs:
            length = length_at(now, place, other)
            counts[length] = counts.get(length, 0) + 1
    # Each round was met once from each of its hands.
    return [(length, counts[length] // length) for length in sorted(counts)]


def distances(board):
    """The list that tells how many hands are so many swaps, from 0 on, from the first one."""
    check_board(board)
    check_ends(board)
    lengths = [len(row) for row in walked(board).rows]
    return [lengths.count(far) for far in range(lengths[-1] + 1)]
