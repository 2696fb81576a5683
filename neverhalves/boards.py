"""Boards: tuples of rows of integers, those of the places and then those of the marks."""
from itertools import permutations
from math import gcd, lcm

from neverhalves.errors import InvalidBoard, InvalidPlace, InvalidRow


def is_board(told):
    """True if a tuple of tuples of integers is a board."""
    many = len(told[0]) if told else 0
    if not 0 < many <= len(told) or any([len(row) != many for row in told]):
        return False
    return weights_found(told) is not None


def weights_found(rows):
    """The list of the least weights within each piece, None if no weights go round."""
    many = len(rows[0])
    found = [0] * many
    for start in range(many):
        if found[start]:
            continue
        ratios = ratios_from(rows, start)
        if ratios is None:
            return None
        for place, worth in whole_ratios(ratios):
            found[place] = worth
    for one in range(many):
        for other in range(one + 1):
            if found[one] * rows[one][other] != -found[other] * rows[other][one]:
                return None
    return found


def ratios_from(rows, start):
    """A dict of the weights in a piece as (top, bottom), that of one place being (1, 1); None if
    an entry stands on one side alone."""
    ratios = {start: (1, 1)}
    waiting = [start]
    while waiting:
        place = waiting.pop()
        top, bottom = ratios[place]
        for other, entry in enumerate(rows[place]):
            if not entry or other in ratios:
                continue
            if not rows[other][place]:
                return None
            over, under = top * abs(entry), bottom * abs(rows[other][place])
            common = gcd(over, under)
            ratios[other] = (over // common, under // common)
            waiting.append(other)
    return ratios


def whole_ratios(ratios):
    """The list of the places and their ratios, in lowest terms and one of them 1, as the least whole numbers."""
    under = 1
    for _, bottom in ratios.values():
        under = lcm(under, bottom)
    return [(place, top * (under // bottom)) for place, (top, bottom) in ratios.items()]


def check_board(board):
    """Refuses what is no board."""
    if not is_board(board):
        raise InvalidBoard(board)


def check_place(board, place):
    """Refuses what is no place of a board."""
    if not 0 <= place < len(board[0]):
        raise InvalidPlace(place)


def has_places(board, row):
    """True if all integers of a row are places of a board."""
    return all([0 <= place < len(board[0]) for place in row])


def check_row(board, row):
    """Refuses a row with an integer that is no place of a board."""
    if not has_places(board, row):
        raise InvalidRow(row)


def size(board):
    """The tuple (places, marks)."""
    check_board(board)
    return len(board[0]), len(board) - len(board[0])


def weights(board):
    """The tuple of the weights, within each piece the least ones."""
    check_board(board)
    return tuple(weights_found(board))


def swap_once(board, place):
    """A board swapped at a place of it."""
    pivot = board[place]
    lines = []
    for line in board:
        lead = line[place]
        # Entries move where those ahead and behind have one sign; half of both terms is left then.
        if lead > 0:
            line = [entry + lead * across if across > 0 else entry for entry, across in zip(line, pivot)]
        elif lead < 0:
            line = [entry - lead * across if across < 0 else entry for entry, across in zip(line, pivot)]
        if lead:
            line[place] = -lead
            line = tuple(line)
        lines.append(line)
    lines[place] = tuple([-entry for entry in pivot])
    return tuple(lines)


def swap_all(board, row):
    """A board swapped at the places of a row, from the left."""
    for place in row:
        board = swap_once(board, place)
    return board


def swapped(board, place):
    """The board swapped at a place."""
    check_board(board)
    check_place(board, place)
    return swap_once(board, place)


def swapped_by(board, row):
    """The board swapped at the places of a row, from the left."""
    check_board(board)
    check_row(board, row)
    return swap_all(board, row)


def pieces_found(board):
    """What `pieces` tells, without checks."""
    found = []
    seen = {}
    for start in range(len(board[0])):
        if start not in seen:
            piece = sorted(ratios_from(board, start))
            found.append(tuple(piece))
            for place in piece:
                seen[place] = True
    return found


def pieces(board):
    """The ascending list of the ascending tuples of places that entries but 0 join."""
    check_board(board)
    return pieces_found(board)


def table(board):
    """The board without its marks."""
    check_board(board)
    return board[:len(board[0])]


def unit_board(board):
    """The table with a mark for each place, in order, that has 1 there and 0 else."""
    check_board(board)
    return with_units(board)


def with_units(board):
    """The `unit_board` of what is known to be a board."""
    places = range(len(board[0]))
    units = [tuple([1 if one == other else 0 for other in places]) for one in places]
    return board[:len(board[0])] + tuple(units)


def marked(board, rows):
    """The board with further marks, a list of their rows, behind the others."""
    check_board(board)
    for row in rows:
        if len(row) != len(board[0]):
            raise InvalidRow(row)
    return board + tuple(rows)


def without_mark(board, at):
    """The board without the mark with an index among the marks."""
    check_board(board)
    many = len(board[0])
    if not 0 <= at < len(board) - many:
        raise InvalidPlace(at)
    return board[:many + at] + board[many + at + 1:]


def negative(board):
    """The board with all signs changed."""
    check_board(board)
    return tuple([tuple([-entry for entry in row]) for row in board])


def turned(board):
    """The table whose entry in row i and column j is minus that in row j and column i."""
    check_board(board)
    rows = board[:len(board[0])]
    return tuple([tuple([-entry for entry in column]) for column in zip(*rows)])


def in_order(board, order):
    """The board of some of its places, in an order, with all marks."""
    lines = [board[place] for place in order] + list(board[len(board[0]):])
    return tuple([tuple([line[place] for place in order]) for line in lines])


def renamed(board, order):
    """The board in which the place order[i] has the number i."""
    check_board(board)
    if sorted(order) != list(range(len(board[0]))):
        raise InvalidRow(order)
    return in_order(board, order)


def first_renamed(board):
    """The least, as tuples compare, of what `renamed` tells for all orders."""
    check_board(board)
    return min([in_order(board, order) for order in permutations(range(len(board[0])))])


def beside(one, other):
    """The board with the places of both and then the marks of both, entries between them 0."""
    check_board(one)
    check_board(other)
    ahead, behind = len(one[0]), len(other[0])
    mine = [row + (0,) * behind for row in one]
    its = [(0,) * ahead + row for row in other]
    return tuple(mine[:ahead] + its[:behind] + mine[ahead:] + its[behind:])


def part(board, places):
    """The board of an ascending list of places, with all marks."""
    check_board(board)
    for place in places:
        check_place(board, place)
    if not places or sorted(set(places)) != places:
        raise InvalidRow(list(places))
    return in_order(board, places)
