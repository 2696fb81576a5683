"""What texts show: rows, boards, sums and hands read back."""
from neverhalves.boards import is_board
from neverhalves.errors import InvalidNumber, Unreadable
from neverhalves.sums import is_sum

MOST_DIGITS = 30


def integer_in(text):
    """The integer that a text shows, None if it shows none, or one that is too long."""
    digits = text[1:] if text.startswith("-") else text
    if not 0 < len(digits) <= MOST_DIGITS or not all([sign in "0123456789" for sign in digits]):
        return None
    number = int(text)
    # There is one text of each integer, so others, such as 07 and -0, show none.
    return number if str(number) == text else None


def integers_in(text):
    """The tuple of the integers that a text shows, None if it shows no such ones."""
    numbers = tuple([integer_in(word) for word in text.split(" ")])
    return None if None in numbers else numbers


def row_in(text):
    """The row that a text shows, None if it shows none."""
    if text == "-":
        return ()
    row = integers_in(text)
    return None if row is None or min(row) < 0 else row


def board_in(text):
    """The board that a text shows, None if it shows none."""
    rows = tuple([integers_in(line) for line in text.split(" ; ")])
    return None if None in rows or not is_board(rows) else rows


def letter_in(text):
    """The tuple (index, power) of the letter that a text shows, None if it shows none."""
    index, mark, tail = text[1:].partition("^")
    at = integer_in(index)
    power = integer_in(tail) if mark else 1
    # A power 1 is not shown, and 0 not either.
    if not text.startswith("z") or at is None or power is None or (mark and power in (0, 1)):
        return None
    return at, power


def term_in(text, many):
    """The tuple (powers, coefficient) that a text shows, of so many letters; None if it shows none."""
    words = text.split(" ")
    coefficient = integer_in(words[0])
    letters = [letter_in(word) for word in words[1:]]
    if coefficient is None or None in letters:
        return None
    powers = [0] * many
    ahead = -1
    for at, power in letters:
        if not ahead < at < many:
            return None
        powers[at] = power
        ahead = at
    return tuple(powers), coefficient


def sum_in(text, many):
    """The sum of so many letters that a text shows, None if it shows none."""
    if text == "0":
        return ()
    told = tuple([term_in(part, many) for part in text.split(" + ")])
    return None if None in told or not is_sum(told, many) else told


def hand_in(text):
    """The hand that a text shows, None if it shows none."""
    inner, brace, rest = text[1:].partition("} ")
    board = board_in(rest)
    if not text.startswith("{") or not brace or board is None:
        return None
    sums = tuple([sum_in(part, len(board)) for part in inner.split(" , ")])
    if len(sums) != len(board[0]) or None in sums or () in sums:
        return None
    return sums, board


def read_row(text):
    """The row that has a text."""
    row = row_in(text)
    if row is None:
        raise Unreadable(text)
    return row


def read_board(text):
    """The board that has a text."""
    board = board_in(text)
    if board is None:
        raise Unreadable(text)
    return board


def read_hand(text):
    """The hand that has a text."""
    hand = hand_in(text)
    if hand is None:
        raise Unreadable(text)
    return hand


def read_sum(text, many):
    """The sum of so many letters that has a text."""
    if many < 1:
        raise InvalidNumber(many)
    told = sum_in(text, many)
    if told is None:
        raise Unreadable(text)
    return told
