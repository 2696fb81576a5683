"""Which tables have finitely many hands, and of what types: told by the tables alone, without a swap."""
from itertools import combinations

from neverhalves.boards import in_order, pieces_found, weights_found

# How many lots of 0, 1, 2 .. unlike sums stand together in some hand, of a piece of a type with n places.
LOTS = {
    ("A", 1): (1, 2), ("A", 2): (1, 5, 5), ("A", 3): (1, 9, 21, 14), ("A", 4): (1, 14, 56, 84, 42),
    ("B", 2): (1, 6, 6), ("B", 3): (1, 12, 30, 20), ("B", 4): (1, 20, 90, 140, 70),
    ("C", 3): (1, 12, 30, 20), ("C", 4): (1, 20, 90, 140, 70),
    ("D", 4): (1, 16, 66, 100, 50), ("F", 4): (1, 28, 133, 210, 105), ("G", 2): (1, 8, 8),
}

# What the last of the minors is by which "D" is told from "A".
MINOR_OF_D = 4


def piece_tables(board):
    """The list of the pieces of a board and their tables."""
    many = len(board[0])
    return [(piece, in_order(board[:many], piece)) for piece in pieces_found(board)]


def is_heavy(board):
    """True if two entries of places, multiplied, are below -3."""
    many = len(board[0])
    return any([board[one][other] * board[other][one] < -3 for one in range(many) for other in range(one)])


def goes_round(rows, places):
    """False if the entries between some places are a ring alone that does not lead round one way."""
    lines = [[rows[place][other] for other in places] for place in places]
    if any([len(line) - line.count(0) != 2 for line in lines]):
        return True
    return all([min(line) < 0 < max(line) for line in lines])


def rings_go_round(rows):
    """True if each ring of three places, and of four without entries across, leads round one way."""
    return all([
        goes_round(rows, ring) for many in range(3, 5) for ring in combinations(range(len(rows)), many)
    ])


def companion(rows):
    """The square of a table, with 2 in its middle and signs by which each ring has an odd number above 0.

    All others are below 0 in a table without rings. With rings, of at most four places, one
    line is above 0: that between the two places which have the most others beside them.
    """
    square = [[-abs(entry) for entry in row] for row in rows]
    joined = [len(row) - row.count(0) for row in rows]
    lines = [pair for pair in combinations(range(len(rows)), 2) if rows[pair[0]][pair[1]]]
    if len(lines) >= len(rows):
        one, other = max(lines, key=lambda line: joined[line[0]] + joined[line[1]])
        square[one][other] = -square[one][other]
        square[other][one] = -square[other][one]
    for place in range(len(rows)):
        square[place][place] = 2
    return square


def last_minor(square):
    """The determinant of a square, 0 if a minor at its beginning is not above 0."""
    lines = square
    ahead = 1
    while lines:
        lead = lines[0]
        if lead[0] <= 0:
            return 0
        # All these are minors of the square, so no rest is left.
        lines = [
            [(entry * lead[0] - line[0] * across) // ahead for entry, across in zip(line[1:], lead[1:])]
            for line in lines[1:]
        ]
        ahead = lead[0]
    return ahead


def minor_of(rows):
    """A number above 0 of the table of a piece with finitely many hands, 0 of an endless one.

    The table is one of at most four places.
    """
    if is_heavy(rows) or not rings_go_round(rows):
        return 0
    return last_minor(companion(rows))


def kind_of(rows):
    """The tuple (type, n) of the table of one piece with finitely many hands."""
    many = len(rows)
    told = sorted(weights_found(rows))
    if told == [1, 3]:
        return "G", many
    if told == [1, 1, 2, 2]:
        return "F", many
    if many > 1 and told == [1] + [2] * (many - 1):
        return "B", many
    if told == [1] * (many - 1) + [2]:
        return "C", many
    if many == 4 and minor_of(rows) == MINOR_OF_D:
        return "D", many
    return "A", many


def kinds_of(board):
    """The ascending list of the types of the pieces of a board with finitely many hands."""
    return sorted([kind_of(rows) for _, rows in piece_tables(board)])


def lots_of(board):
    """How many lots of 0, 1, 2 .. unlike sums stand together in some hand, of a board with finitely many."""
    lots = [1]
    for kind in kinds_of(board):
        own = LOTS[kind]
        longer = [0] * (len(lots) + len(own) - 1)
        for at, many in enumerate(lots):
            for far, times in enumerate(own):
                longer[at + far] += many * times
        lots = longer
    return lots
