"""Marks: what a row makes of them, and hands in which they are merged or put to 1."""
from neverhalves.boards import check_board, check_row, swap_all
from neverhalves.errors import InvalidHand, NoMark
from neverhalves.hands import check_hand
from neverhalves.heights import check_shape, heights_behind, shape_put, shapes_behind, sum_made
from neverhalves.terms import least_of, with_powers


def check_mark(board, at):
    """Refuses an index at which a board has no mark."""
    if not 0 <= at < len(board) - len(board[0]):
        raise NoMark(at)


def check_two_marks(board, at, other):
    """Refuses indexes at which a board has no marks, and the same one twice."""
    check_mark(board, at)
    check_mark(board, other)
    if at == other:
        raise NoMark(other)


def left_out(line, at):
    """A tuple without what stands at an index."""
    return line[:at] + line[at + 1:]


def exchanged_at(line, at, one):
    """A tuple with something else at an index."""
    return line[:at] + (one,) + line[at + 1:]


def without_letter(told, at):
    """A sum with 1 put for a letter, which is left out."""
    return with_powers(told, lambda powers: left_out(powers, at))


def letter_merged(told, at, other):
    """A sum with one letter put for another one, which is left out."""
    return with_powers(
        told, lambda powers: left_out(exchanged_at(powers, at, powers[at] + powers[other]), other)
    )


def rows_merged(board, at, other):
    """A board with one row added to that at an index, and left out."""
    row = tuple([mine + its for mine, its in zip(board[at], board[other])])
    return left_out(exchanged_at(board, at, row), other)


def check_not_nought(hand, sums):
    """Refuses a hand of which a sum has become 0."""
    if () in sums:
        raise InvalidHand(hand)


def marks_at(board, row):
    """The list of the tuples of the entries that each place has in the rows of the marks behind a row."""
    check_board(board)
    check_row(board, row)
    lines = swap_all(board, row)[len(board[0]):]
    return [tuple([line[place] for line in lines]) for place in range(len(board[0]))]


def by_heights(board, row):
    """The list of what `sum_at` makes of the heights and shapes behind a row."""
    check_board(board)
    check_row(board, row)
    return [
        sum_made(board, height, shape)
        for height, shape in zip(heights_behind(board, row), shapes_behind(board, row))
    ]


def common_marks(board, shape):
    """The tuple of the least powers of the marks that `sum_at` takes away."""
    check_board(board)
    check_shape(board, shape)
    told = shape_put(board, shape)
    if not told:
        return (0,) * (len(board) - len(board[0]))
    return least_of(told)[len(board[0]):]


def merged(board, at, other):
    """The board in which one mark's row has that of another one added, which is left out."""
    check_board(board)
    check_two_marks(board, at, other)
    many = len(board[0])
    return rows_merged(board, many + at, many + other)


def merged_hand(hand, at, other):
    """The hand with the letter of one mark put for that of another one, which is left out."""
    check_hand(hand)
    sums, board = hand
    check_two_marks(board, at, other)
    many = len(board[0])
    then = tuple([letter_merged(told, many + at, many + other) for told in sums])
    check_not_nought(hand, then)
    return then, rows_merged(board, many + at, many + other)


def mark_freed(hand, at):
    """The hand with 1 put for the letter of a mark, which is left out."""
    check_hand(hand)
    sums, board = hand
    check_mark(board, at)
    many = len(board[0])
    then = tuple([without_letter(told, many + at) for told in sums])
    check_not_nought(hand, then)
    return then, left_out(board, many + at)


def scaled(board, at, times):
    """The board with all entries of a mark's row times an integer."""
    check_board(board)
    check_mark(board, at)
    place = len(board[0]) + at
    return exchanged_at(board, place, tuple([entry * times for entry in board[place]]))
