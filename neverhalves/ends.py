"""Which boards have finitely many hands, of what types, and the rows that lead to all their hands."""
from neverhalves.boards import (
    check_board, check_row, in_order, pieces, swap_all, swap_once, weights, with_units,
)
from neverhalves.errors import Endless
from neverhalves.hands import begun, swapped_at
from neverhalves.ways import first_row, swaps_of

# How many hands and how many sums a piece of a type with n places has.
COUNTS = {
    ("A", 1): (2, 2), ("A", 2): (5, 5), ("A", 3): (14, 9), ("A", 4): (42, 14),
    ("B", 2): (6, 6), ("B", 3): (20, 12), ("B", 4): (70, 20),
    ("C", 3): (20, 12), ("C", 4): (70, 20),
    ("D", 4): (50, 16), ("F", 4): (105, 28), ("G", 2): (8, 8),
}


def is_heavy(board):
    """True if two entries of places, multiplied, are below -3."""
    many = len(board[0])
    return any([board[one][other] * board[other][one] < -3 for one in range(many) for other in range(one)])


def heavy_row(rows):
    """The first row behind which a table is heavy, shorter ones first, then ascending; None if none."""
    return first_row(rows, swaps_of, is_heavy, None)


def piece_tables(board):
    """The list of the pieces of a board and their tables."""
    many = len(board[0])
    return [(piece, in_order(board[:many], piece)) for piece in pieces(board)]


def first_heavy(board):
    """The first row behind which a board is heavy, None if there is none."""
    best = None
    # A swap in another piece helps nothing, so the first row stays in one piece.
    for piece, rows in piece_tables(board):
        row = heavy_row(rows)
        if row is not None:
            told = tuple([piece[place] for place in row])
            if best is None or (len(told), told) < (len(best), best):
                best = told
    return best


def check_ends(board):
    """Refuses a board that has endlessly many hands."""
    row = first_heavy(board)
    if row is not None:
        raise Endless(row)


def column_lot(board):
    """The columns in the last n rows, as a lot."""
    rows = board[-len(board[0]):]
    return tuple(sorted(zip(*rows)))


def walk(start):
    """All that comes of a board with the marks of `unit_board`, told by its columns.

    Returns the list of the tuples (first row, board), in the order of the rows, and the
    list of the lists that tell at which index one swap leads to, by places.
    """
    found = [((), start)]
    known = {column_lot(start): 0}
    links = []
    while len(links) < len(found):
        row, now = found[len(links)]
        steps = []
        for place in range(len(now[0])):
            then = swap_once(now, place)
            lot = column_lot(then)
            if lot not in known:
                known[lot] = len(found)
                found.append((row + (place,), then))
            steps.append(known[lot])
        links.append(steps)
    return found, links


def is_endless(board):
    """True if the board has endlessly many hands."""
    check_board(board)
    return first_heavy(board) is not None


def endless_row(board):
    """The first row behind which two entries, multiplied, are below -3; None if there is none."""
    check_board(board)
    return first_heavy(board)


def shows_endless(board, row):
    """True if two entries, multiplied, are below -3 behind the whole row."""
    check_board(board)
    check_row(board, row)
    return is_heavy(swap_all(board, row))


def kind_of(rows):
    """The tuple (type, n) of the table of one piece with finitely many hands."""
    many = len(rows)
    told = sorted(weights(rows))
    if told == [1, 3]:
        return "G", many
    if told == [1, 1, 2, 2]:
        return "F", many
    if many > 1 and told == [1] + [2] * (many - 1):
        return "B", many
    if told == [1] * (many - 1) + [2]:
        return "C", many
    if many == 4 and len(walk(with_units(rows))[0]) == 50:
        return "D", many
    return "A", many


def kinds_of(board):
    """The ascending list of the types of the pieces of a board with finitely many hands."""
    return sorted([kind_of(rows) for _, rows in piece_tables(board)])


def types(board):
    """The ascending list of the tuples (type, n), one for each piece."""
    check_board(board)
    check_ends(board)
    return kinds_of(board)


def how_many_hands(board):
    """How many hands there are, but for order."""
    check_board(board)
    check_ends(board)
    total = 1
    for kind in kinds_of(board):
        total = total * COUNTS[kind][0]
    return total


def how_many_sums(board):
    """How many sums all hands have together."""
    check_board(board)
    check_ends(board)
    return sum([COUNTS[kind][1] for kind in kinds_of(board)])


def all_rows(board):
    """The list of the first rows that lead to all hands, each, but for order, once."""
    check_board(board)
    check_ends(board)
    return [row for row, _ in walk(with_units(board))[0]]


def hands_found(board):
    """A dict of the hands behind `all_rows`, by these rows, in their order."""
    hands = {}
    for row, _ in walk(with_units(board))[0]:
        # A first row without its last place is a first row too.
        hands[row] = swapped_at(hands[row[:-1]], row[-1]) if row else begun(board)
    return hands


def sums_found(board):
    """What `all_sums` tells, without checks."""
    told = {}
    for sums, _ in hands_found(board).values():
        for one in sums:
            told[one] = True
    return sorted(told)


def all_sums(board):
    """The ascending list of the sums of all hands."""
    check_board(board)
    check_ends(board)
    return sums_found(board)


def row_between(board, row, other):
    """The first row that leads, but for order, from the hand behind a row to that behind another one."""
    check_board(board)
    check_row(board, row)
    check_row(board, other)
    check_ends(board)
    start = swap_all(with_units(board), row)
    wanted = column_lot(swap_all(with_units(board), other))
    rows = [way for way, now in walk(start)[0] if column_lot(now) == wanted]
    return rows[0]


def farthest(board):
    """The last of `all_rows`."""
    check_board(board)
    check_ends(board)
    return walk(with_units(board))[0][-1][0]
