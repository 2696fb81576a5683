"""Belts: the swaps of a parted board at all its sources and at all other places, turn by turn."""
from neverhalves.alikes import source_places, table_of
from neverhalves.boards import check_board, swap_all, with_units
from neverhalves.ends import check_ends, sums_found
from neverhalves.errors import InvalidBoard, InvalidNumber
from neverhalves.hands import begun
from neverhalves.packs import swapped_along
from neverhalves.terms import whole_power
from neverhalves.ways import column_lot

# What `number_of` tells of each type with each number of places.
NUMBERS = {
    ("A", 1): 2, ("A", 2): 3, ("A", 3): 4, ("A", 4): 5,
    ("B", 2): 4, ("B", 3): 6, ("B", 4): 8, ("C", 3): 6, ("C", 4): 8,
    ("D", 4): 6, ("F", 4): 12, ("G", 2): 6,
}


def parts_by(board):
    """What `is_parted` tells, without checks."""
    return all([min(row) >= 0 or max(row) <= 0 for row in table_of(board)])


def check_parted(board):
    """Refuses what is no board, and a board that is not parted."""
    check_board(board)
    if not parts_by(board):
        raise InvalidBoard(board)


def check_turns(turns):
    """Refuses a number below 0."""
    if turns < 0:
        raise InvalidNumber(turns)


def halves_of(board):
    """The tuples of the places of the turns 0, 2, 4 .. and of the turns 1, 3, 5 .."""
    sources = source_places(board)
    others = [place for place in range(len(board[0])) if place not in sources]
    return tuple(sources), tuple(others)


def places_by(board, turns):
    """The list of the tuples of places of the first so many turns."""
    halves = halves_of(board)
    return [halves[turn % 2] for turn in range(turns)]


def shortened_belt(board, turns):
    """A row to the hand behind so many turns, in which rounds to the first hand are left out."""
    start = with_units(board)
    now = start
    row = ()
    for places in places_by(board, turns):
        now = swap_all(now, places)
        row = () if now == start else row + places
    return row


def turns_back(board, holds):
    """The least number of turns, from 1 on, behind which something holds.

    It is asked of the board that comes of the unit board, and of the number of turns.
    """
    halves = halves_of(board)
    now = swap_all(with_units(board), halves[0])
    turns = 1
    while not holds(now, turns):
        now = swap_all(now, halves[turns % 2])
        turns += 1
    return turns


def numbers_then(numbers, rows, place):
    """The values of the sums of a table at ones, behind a swap, of what they are ahead of it."""
    above, below = 1, 1
    for number, row in zip(numbers, rows):
        if row[place] > 0:
            above = above * whole_power(number, row[place])
        elif row[place] < 0:
            below = below * whole_power(number, -row[place])
    return numbers[:place] + [(above + below) // numbers[place]] + numbers[place + 1:]


def is_parted(board):
    """True if each place is a source or has no entry above 0."""
    check_board(board)
    return parts_by(board)


def turn_places(board, turn):
    """The tuple of the places of a turn."""
    check_parted(board)
    check_turns(turn)
    return halves_of(board)[turn % 2]


def belt(board, turns):
    """The row of the first so many turns."""
    check_parted(board)
    check_turns(turns)
    return tuple([place for places in places_by(board, turns) for place in places])


def belt_hand(board, turns):
    """The hand behind so many turns."""
    check_parted(board)
    check_turns(turns)
    return swapped_along(begun(board), shortened_belt(board, turns))


def half_length(board):
    """The least number of turns, from 1 on, behind which the hand is the first one but for order."""
    check_parted(board)
    check_ends(board)
    wanted = column_lot(with_units(board))
    return turns_back(board, lambda now, turns: column_lot(now) == wanted)


def belt_length(board):
    """The least even number of turns, from 2 on, behind which the hand is the first one, each sum in its place."""
    check_parted(board)
    check_ends(board)
    start = with_units(board)
    return turns_back(board, lambda now, turns: turns % 2 == 0 and now == start)


def belt_sums(board):
    """The ascending list of the sums that stand in a hand behind some turns."""
    check_parted(board)
    check_ends(board)
    # All sums of all hands stand on the belt.
    return sums_found(board)


def belt_values(board, turns):
    """The list of the tuples of the values, at ones, of the sums behind 0, 1 .. turns."""
    check_parted(board)
    check_turns(turns)
    rows = table_of(board)
    numbers = [1] * len(rows)
    found = [tuple(numbers)]
    for places in places_by(board, turns):
        for place in places:
            numbers = numbers_then(numbers, rows, place)
            rows = swap_all(rows, (place,))
        found.append(tuple(numbers))
    return found


def number_of(kind):
    """The number h of a tuple (type, n)."""
    if kind not in NUMBERS:
        raise InvalidNumber(kind)
    return NUMBERS[kind]
