"""Books of rows: which lead to the same hand, which lead back, and the least one of them."""
from neverhalves.boards import check_board, check_row, swap_once, with_units
from neverhalves.columns import check_length, columns_of, units_behind
from neverhalves.ends import column_lot


def alike_by(board, one, other):
    """What `lead_alike` tells, without checks: the columns tell hands apart."""
    return column_lot(units_behind(board, one)) == column_lot(units_behind(board, other))


def next_level(level, known):
    """A dict of the boards one swap from those of a level, by lots of columns, with their first rows.

    A lot that is known is left out, and each new one is known then.
    """
    found = {}
    for row, now in level.values():
        for place in range(len(now[0])):
            then = swap_once(now, place)
            lot = column_lot(then)
            if lot not in known:
                known[lot] = True
                found[lot] = (row + (place,), then)
    return found


def least_way(start, end):
    """The first row from a board to one that has, but for order, the columns of another one.

    Both ends are looked around in turns: where the two meet is the middle of the row.
    """
    ahead, back = {column_lot(start): ((), start)}, [{column_lot(end): ((), end)}]
    known, known_back = {lot: True for lot in ahead}, {lot: True for lot in back[0]}
    while True:
        met = [step for lot, step in ahead.items() if lot in back[-1]]
        if met:
            # They stand in the order of their rows, and the first row begins with one of them.
            row, now = met[0]
            return row + way_down(now, back[:-1])
        if len(ahead) < len(back[-1]):
            ahead = next_level(ahead, known)
        else:
            back.append(next_level(back[-1], known_back))


def way_down(board, levels):
    """The first row that comes, step by step, through the levels from the last one to the first."""
    row = ()
    for level in reversed(levels):
        place = 0
        while column_lot(swap_once(board, place)) not in level:
            place += 1
        board = swap_once(board, place)
        row = row + (place,)
    return row


def plain_ways(start, length):
    """The list of the tuples (row, board) of all rows of a length without a place twice side by side."""
    found = [((), start)]
    for _ in range(length):
        found = [
            (row + (place,), swap_once(now, place)) for row, now in found
            for place in range(len(start[0])) if row[-1:] != (place,)
        ]
    return found


def renumbered(row, board, other):
    """A row by the numbers that the places of a board have in another one with the same columns."""
    places = {column: place for place, column in enumerate(columns_of(other))}
    columns = columns_of(board)
    return tuple([places[columns[place]] for place in row])


def ways_back(start, length):
    """What `rows_back` tells of a length and the board with the marks of `unit_board`.

    Each row is two halves: one ahead, and one ahead too that is gone from its end.
    """
    halves = {}
    for way, then in plain_ways(start, length // 2):
        halves.setdefault(column_lot(then), []).append((way[::-1], then))
    found = []
    for row, now in plain_ways(start, length - length // 2):
        for way, then in halves.get(column_lot(now), []):
            rest = renumbered(way, then, now)
            if not rest or rest[0] != row[-1]:
                found.append(row + rest)
    return sorted(found)


def behind(row, other):
    """The one row and then the other one."""
    return row + other


def back(row):
    """The row from its end."""
    return row[::-1]


def is_nothing(board, row):
    """True if the hand behind a row is the first one, each sum in its place."""
    check_board(board)
    check_row(board, row)
    return units_behind(board, row) == with_units(board)


def is_turn(board, row):
    """True if the hand behind a row is the first one but for order."""
    check_board(board)
    check_row(board, row)
    return alike_by(board, row, ())


def lead_alike(board, one, other):
    """True if two rows lead to the same hand but for order."""
    check_board(board)
    check_row(board, one)
    check_row(board, other)
    return alike_by(board, one, other)


def least_row(board, row):
    """The first row that leads to the hand behind a row but for order."""
    check_board(board)
    check_row(board, row)
    return least_way(with_units(board), units_behind(board, row))


def rows_back(board, length):
    """The ascending list of the plain rows of a length that lead to the first hand but for order."""
    check_board(board)
    check_length(length)
    return ways_back(with_units(board), length)


def order_behind(board, row):
    """What `same_hands` tells of the hand behind a row and the first one."""
    check_board(board)
    check_row(board, row)
    if not alike_by(board, row, ()):
        return None
    # The letter of a place stands where its column is.
    columns = columns_of(units_behind(board, row))
    return tuple([columns.index(unit) for unit in columns_of(with_units(board))])
