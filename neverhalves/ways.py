"""The first rows of steps, shorter ones first, then ascending, to where something holds."""
from neverhalves.boards import swap_once


def swaps_of(board):
    """The list of the tuples (place, the board swapped there)."""
    return [(place, swap_once(board, place)) for place in range(len(board[0]))]


def first_row(start, steps, holds, most):
    """The first row of at most so many steps (None: of any number) to a state that is wanted; or None.

    `steps` tells the list of the tuples (place, state) of a state, the places ascending, and
    `holds` whether a state is wanted.
    """
    if holds(start):
        return ()
    known = {start: True}
    level = [((), start)]
    length = 0
    while level and length != most:
        further = []
        for row, now in level:
            for place, then in steps(now):
                # An elder row to the same state goes on just as well.
                if then in known:
                    continue
                if holds(then):
                    return row + (place,)
                known[then] = True
                further.append((row + (place,), then))
        level = further
        length += 1
    return None
