"""The first rows of steps, shorter ones first, then ascending, to where something holds."""
from neverhalves.boards import swap_once


def swaps_of(board):
    """The list of the tuples (place, the board swapped there)."""
    return [(place, swap_once(board, place)) for place in range(len(board[0]))]


def first_row(start, steps, holds, most):
    """The first row of at most so many steps (None: of any number) to a state that is wanted; or None.

    `steps` tells the list of the tuples (place, state) of a state, the places ascending, and
    `holds` whether a state is wanted.
    """
    if holds(start):
        return ()
    known = {start: True}
    level = [((), start)]
    length = 0
    while level and length != most:
        further = []
        for row, now in level:
            for place, then in steps(now):
                # An elder row to the same state goes on just as well.
                if then in known:
                    continue
                if holds(then):
                    return row + (place,)
                known[then] = True
                further.append((row + (place,), then))
        level = further
        length += 1
    return None


def column_lot(board):
    """The columns in the last n rows, as a lot."""
    rows = board[-len(board[0]):]
    return tuple(sorted(zip(*rows)))


def next_level(level, known):
    """A dict of the boards one swap from those of a level, by lots of columns, with their first rows.

    A lot that is known is left out, and each new one is known then.
    """
    found = {}
    for row, now in level.values():
        for place, then in swaps_of(now):
            lot = column_lot(then)
            if lot not in known:
                known[lot] = True
                found[lot] = (row + (place,), then)
    return found


def way_down(board, levels):
    """The first row that comes, step by step, through the levels from the last one to the first."""
    row = ()
    for level in reversed(levels):
        fit = [(place, then) for place, then in swaps_of(board) if column_lot(then) in level]
        place, board = fit[0]
        row = row + (place,)
    return row


def row_to_columns(start, end):
    """The first row from a board to one that has, but for order, the columns of another one.

    Both ends are looked around in turns: where the two meet is the middle of the row.
    """
    ahead, back = {column_lot(start): ((), start)}, [{column_lot(end): ((), end)}]
    known, known_back = {lot: True for lot in ahead}, {lot: True for lot in back[0]}
    while True:
        met = [step for lot, step in ahead.items() if lot in back[-1]]
        if met:
            # They stand in the order of their rows, and the first row begins with the first one.
            row, now = met[0]
            return row + way_down(now, back[:-1])
        if len(ahead) < len(back[-1]):
            ahead = next_level(ahead, known)
        else:
            back.append(next_level(back[-1], known_back))
