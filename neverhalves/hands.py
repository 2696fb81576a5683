"""Hands: tuples (sums, board), the sums one for each place, and how they are swapped."""
from neverhalves.boards import check_board, check_place, check_row, is_board, swap_once
from neverhalves.errors import InvalidHand, InvalidRow, NotExact
from neverhalves.packs import sum_along, swapped_along
from neverhalves.sums import is_sum
from neverhalves.terms import added, letter_of, product_of, quotient_of


def check_hand(hand):
    """Refuses what is no hand."""
    sums, board = hand
    if not is_board(board) or len(sums) != len(board[0]):
        raise InvalidHand(hand)
    if not all([told and is_sum(told, len(board)) for told in sums]):
        raise InvalidHand(hand)


def letters_from(first, many):
    """The list of the letters from an index on, of so many ones."""
    return [letter_of(at, many) for at in range(first, many)]


def begun(board):
    """The first hand of what is known to be a board."""
    return tuple(letters_from(0, len(board))[:len(board[0])]), board


def both_products(hand, place):
    """Both products of a swap, that of the entries above 0 first."""
    sums, board = hand
    factors = list(sums) + letters_from(len(sums), len(board))
    entries = [(told, row[place]) for told, row in zip(factors, board)]
    above = [(told, entry) for told, entry in entries if entry > 0]
    below = [(told, -entry) for told, entry in entries if entry < 0]
    return product_of(above, len(board)), product_of(below, len(board))


def swapped_at(hand, place):
    """A hand that comes of a row, swapped at a place of it."""
    return swapped_along(hand, (place,))


def first_hand(board):
    """The hand whose sums are the letters themselves."""
    check_board(board)
    return begun(board)


def products(hand, place):
    """The tuple of both products of a swap, that of the entries above 0 first."""
    check_hand(hand)
    check_place(hand[1], place)
    return both_products(hand, place)


def swapped_hand(hand, place):
    """The hand swapped at a place."""
    check_hand(hand)
    check_place(hand[1], place)
    sums, board = hand
    above, below = both_products(hand, place)
    # A hand that is passed need not come of a row, so all may come here.
    told = quotient_of(added(above, below), sums[place])
    if told is None:
        raise NotExact(place)
    return sums[:place] + (told,) + sums[place + 1:], swap_once(board, place)


def hand_by(board, row):
    """The hand behind a row."""
    check_board(board)
    check_row(board, row)
    return swapped_along(begun(board), row)


def same_hands(one, other):
    """The first tuple of places of the one that are, in order, the places of the other one; or None."""
    check_hand(one)
    check_hand(other)
    many = len(one[0])
    if many != len(other[0]) or len(one[1]) != len(other[1]):
        return None
    columns = [place_alone(one, place) for place in range(many)]
    wanted = [place_alone(other, place) for place in range(many)]
    choices = [[at for at in range(many) if columns[at] == column] for column in wanted]
    return first_order(one[1], other[1], choices, ())


def place_alone(hand, place):
    """What a place has whatever the numbers of the others: its sum and its entries in the marks."""
    sums, board = hand
    return sums[place], [row[place] for row in board[len(sums):]]


def first_order(one, other, choices, taken):
    """The first tuple that begins with the taken places, by which the one board is the other one; or None."""
    at = len(taken)
    if at == len(choices):
        return taken
    for place in choices[at]:
        longer = taken + (place,)
        if place in taken or not fits_last(one, other, longer):
            continue
        found = first_order(one, other, choices, longer)
        if found is not None:
            return found
    return None


def fits_last(one, other, taken):
    """True if the entries of the one at the last of the taken places are those of the other one."""
    last = len(taken) - 1
    place = taken[last]
    return all([
        one[place][its] == other[last][at] and one[its][place] == other[at][last]
        for at, its in enumerate(taken)
    ])


def beside_hands(board, row):
    """The list of the hands one swap from the one behind a row, by places."""
    hand = hand_by(board, row)
    return [swapped_at(hand, place) for place in range(len(board[0]))]


def shortened(row):
    """The row without two alike places side by side, again and again."""
    kept = []
    for place in row:
        if kept and kept[-1] == place:
            kept.pop()
        else:
            kept.append(place)
    return tuple(kept)


def sum_by(board, row):
    """The sum at the last place of a row behind it."""
    check_board(board)
    check_row(board, row)
    if not row:
        raise InvalidRow(row)
    return sum_along(begun(board), row, row[-1])
