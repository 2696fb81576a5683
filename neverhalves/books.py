"""Books of rows: which lead to the same hand, which lead back, and the least one of them."""
from neverhalves.alikes import table_of
from neverhalves.boards import check_board, check_row, swap_once, with_units
from neverhalves.columns import check_length, columns_of, units_behind
from neverhalves.walks import packs_then
from neverhalves.ways import column_lot, row_to_columns

# So many bits for each number of a column are far more than rows of some swaps need.
BITS = 128


def alike_by(board, one, other):
    """What `lead_alike` tells, without checks: the columns tell hands apart."""
    return column_lot(units_behind(board, one)) == column_lot(units_behind(board, other))


def units_packed(many):
    """The packed columns of a unit board of so many places."""
    return [1 << (BITS * at) for at in range(many)]


def longer_ways(ways):
    """The list of the ways that go on with one place more, not the last one again.

    A way is a tuple (row, table, packed columns); the tables are worked out where one goes on.
    """
    found = []
    for row, rows, packs in ways:
        now = swap_once(rows, row[-1]) if row else rows
        for place in range(len(now)):
            if row[-1:] != (place,):
                found.append((row + (place,), now, packs_then(packs, now[place], place)))
    return found


def renumbered(row, packs, others):
    """A row by the numbers that its places have where the same columns stand otherwise."""
    places = {pack: place for place, pack in enumerate(others)}
    return tuple([places[packs[place]] for place in row])


def ways_back(rows, length):
    """What `rows_back` tells of a length and a table.

    Each row is two halves: one ahead, and one ahead too that is gone from its end.
    """
    ahead = [((), rows, units_packed(len(rows)))]
    for _ in range(length // 2):
        ahead = longer_ways(ahead)
    halves = {}
    for row, _, packs in ahead:
        halves.setdefault(tuple(sorted(packs)), []).append((row[::-1], packs))
    if length % 2:
        ahead = longer_ways(ahead)
    found = []
    for row, _, packs in ahead:
        for way, others in halves.get(tuple(sorted(packs)), []):
            rest = renumbered(way, others, packs)
            if not rest or rest[0] != row[-1]:
                found.append(row + rest)
    return sorted(found)


def behind(row, other):
    """The one row and then the other one."""
    return row + other


def back(row):
    """The row from its end."""
    return row[::-1]


def is_nothing(board, row):
    """True if the hand behind a row is the first one, each sum in its place."""
    check_board(board)
    check_row(board, row)
    return units_behind(board, row) == with_units(board)


def is_turn(board, row):
    """True if the hand behind a row is the first one but for order."""
    check_board(board)
    check_row(board, row)
    return alike_by(board, row, ())


def lead_alike(board, one, other):
    """True if two rows lead to the same hand but for order."""
    check_board(board)
    check_row(board, one)
    check_row(board, other)
    return alike_by(board, one, other)


def least_row(board, row):
    """The first row that leads to the hand behind a row but for order."""
    check_board(board)
    check_row(board, row)
    return row_to_columns(with_units(board), units_behind(board, row))


def rows_back(board, length):
    """The ascending list of the plain rows of a length that lead to the first hand but for order."""
    check_board(board)
    check_length(length)
    return ways_back(table_of(board), length)


def order_behind(board, row):
    """What `same_hands` tells of the hand behind a row and the first one."""
    check_board(board)
    check_row(board, row)
    if not alike_by(board, row, ()):
        return None
    # The letter of a place stands where its column is.
    columns = columns_of(units_behind(board, row))
    return tuple([columns.index(unit) for unit in columns_of(with_units(board))])
