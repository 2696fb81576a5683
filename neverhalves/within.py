"""Sums written by the letters of another hand, and what bars that."""
from neverhalves.boards import check_board, check_row, swap_all
from neverhalves.hands import begun, letters_from, shortened
from neverhalves.packs import swapped_along, swaps_along
from neverhalves.poles import shows_pole
from neverhalves.steps import is_stepped, stepped
from neverhalves.sums import check_sum
from neverhalves.terms import packed, put_into, reach_of, unpacked, unpacker, width_for


def bits_for(told, columns):
    """The bits that each letter needs where a sum is told behind swaps with some columns, one after the other."""
    reach = reach_of(told)
    for column in columns:
        reach = reach * (1 + max(max(column), -min(column)))
    return width_for(reach)


def told_by(board, row, told):
    """A sum told by the letters of the hand behind a row, None if it is none."""
    row = shortened(row)
    if not told or not row:
        return told
    steps = swaps_along(board, row)[0]
    bits = bits_for(told, [column for _, column in steps])
    form = unpacker(len(board), bits)
    terms = packed(told, bits)
    for at, (place, column) in enumerate(steps):
        then = stepped(terms, place, column, form)
        if then is None:
            return told_at_once(swap_all(board, row[:at]), row[at:], unpacked(terms, len(board), bits))
        terms = then
    return unpacked(terms, len(board), bits)


def told_at_once(board, row, told):
    """A sum that is none behind the first swap of a row, told by the letters behind the whole row; or None."""
    if len(row) == 1:
        return None
    # The way back leads to the first letters, told by the letters of the hand behind the row.
    sums = swapped_along(begun(swap_all(board, row)), row[::-1])[0]
    others = list(sums) + letters_from(len(sums), len(board))
    if shows_pole(told, others):
        return None
    return put_into(told, others, len(board))


def first_barring(board, told):
    """What `barring` tells, without checks."""
    if not told:
        return None
    columns = list(zip(*board))
    bits = max([bits_for(told, [column]) for column in columns])
    form = unpacker(len(board), bits)
    terms = packed(told, bits)
    for place, column in enumerate(columns):
        if not is_stepped(terms, place, column, form):
            return place
    return None


def written(board, row, told):
    """The sum of the letters of the hand behind a row that is a sum of the first letters; or None."""
    check_board(board)
    check_row(board, row)
    check_sum(told, len(board))
    return told_by(board, row, told)


def is_let(board, told):
    """True if a sum is one by the letters of each hand that is one swap away."""
    check_board(board)
    check_sum(told, len(board))
    return first_barring(board, told) is None


def barring(board, told):
    """The least place behind which a sum is none, None if there is none."""
    check_board(board)
    check_sum(told, len(board))
    return first_barring(board, told)


def as_product(board, row, told):
    """The tuple of the powers if what is written has one term, with the coefficient 1; or None."""
    check_board(board)
    check_row(board, row)
    check_sum(told, len(board))
    result = told_by(board, row, told)
    if result is None or len(result) != 1 or result[0][1] != 1:
        return None
    return result[0][0]


def read_back(board, row, told):
    """The sum of the first letters that is a sum of the letters of the hand behind a row; or None."""
    check_board(board)
    check_row(board, row)
    check_sum(told, len(board))
    return told_by(swap_all(board, row), row[::-1], told)
