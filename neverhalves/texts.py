"""Texts of rows, boards, sums, hands and numbers."""


def show_integers(numbers):
    """The integers of a tuple, separated by a space."""
    return " ".join([str(number) for number in numbers])


def show_letter(at, power):
    """A letter to a power but 0."""
    if power == 1:
        return f"z{at}"
    return f"z{at}^{power}"


def show_term(powers, coefficient):
    """The coefficient and the letters of a term."""
    letters = [show_letter(at, power) for at, power in enumerate(powers) if power]
    return " ".join([str(coefficient)] + letters)


def show_number(top, bottom):
    """A number, its bottom only if that is not 1."""
    if bottom == 1:
        return str(top)
    return f"{top}/{bottom}"


def show_row(row):
    """The text of a row."""
    return show_integers(row) or "-"


def show_board(board):
    """The text of a board."""
    return " ; ".join([show_integers(row) for row in board])


def show_sum(told):
    """The text of a sum."""
    return " + ".join([show_term(powers, coefficient) for powers, coefficient in told]) or "0"


def show_hand(hand):
    """The text of a hand."""
    sums, board = hand
    return "{" + " , ".join([show_sum(told) for told in sums]) + "} " + show_board(board)


def show_numbers(numbers):
    """The text of a list of numbers (top, bottom)."""
    return " ".join([show_number(top, bottom) for top, bottom in numbers]) or "-"
