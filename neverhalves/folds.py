"""Folds: orders by which a table stays what it is, and the smaller tables that they make of it."""
from neverhalves.boards import in_order, is_board, swap_all
from neverhalves.errors import InvalidBoard, InvalidRow
from neverhalves.hands import begun, fits_last
from neverhalves.packs import swapped_along
from neverhalves.sums import check_sum
from neverhalves.terms import with_powers


def check_table(table):
    """Refuses what is no board, and a board with marks."""
    if not is_board(table) or len(table) != len(table[0]):
        raise InvalidBoard(table)


def check_order(order, many):
    """Refuses an order that is empty or has not each of so many places once."""
    if not order or sorted(order) != list(range(many)):
        raise InvalidRow(order)


def check_fold(table, order):
    """Refuses what is no table, then what is no order of its places, then what is no fold of it."""
    check_table(table)
    check_order(order, len(table))
    if not holds_by(table, order):
        raise InvalidRow(order)


def check_rounds(order, row):
    """Refuses a row with a number that no round of an order has."""
    many = len(rounds_by(order))
    if not all([0 <= at < many for at in row]):
        raise InvalidRow(row)


def rounds_by(order):
    """What `rounds_of` tells, without checks."""
    found = []
    seen = {}
    for start in range(len(order)):
        places = []
        place = start
        while place not in seen:
            seen[place] = True
            places.append(place)
            place = order[place]
        if places:
            found.append(tuple(sorted(places)))
    return found


def keeps_signs(table, places):
    """True if a round has no entries within it, and no column has both signs at its places."""
    rows = [table[place] for place in places]
    if any([min(column) < 0 < max(column) for column in zip(*rows)]):
        return False
    return not any([row[place] for row in rows for place in places])


def fits_rounds(table, order):
    """True if the rounds of an order by which the table stays are as a fold wants them."""
    return all([keeps_signs(table, places) for places in rounds_by(order)])


def holds_by(table, order):
    """What `is_fold` tells, without checks."""
    return in_order(table, order) == table and fits_rounds(table, order)


def orders_by(table):
    """The ascending list of the orders by which a table stays what it is."""
    places = range(len(table))
    found = [()]
    for _ in places:
        found = [
            taken + (place,) for taken in found for place in places
            if place not in taken and fits_last(table, table, taken + (place,))
        ]
    return found


def table_folded(table, order):
    """What `folded` tells, without checks."""
    rounds = rounds_by(order)
    return tuple([
        tuple([sum([table[place][column[0]] for place in places]) for column in rounds])
        for places in rounds
    ])


def steady_by(table, order, row):
    """What `steady` tells, without checks."""
    rounds = rounds_by(order)
    for at in row:
        table = swap_all(table, rounds[at])
        if not holds_by(table, order):
            return False
    return True


def rounds_of(order):
    """The ascending list of the rounds of an order, ascending tuples."""
    check_order(order, len(order))
    return rounds_by(order)


def is_fold(table, order):
    """True if an order is a fold of a table."""
    check_table(table)
    check_order(order, len(table))
    return holds_by(table, order)


def folds(table):
    """The ascending list of all folds of a table but the one that moves no place."""
    check_table(table)
    # The order that moves no place is the least of all.
    return [order for order in orders_by(table)[1:] if fits_rounds(table, order)]


def folded(table, order):
    """The table that has the rounds of a fold as places."""
    check_fold(table, order)
    return table_folded(table, order)


def unfolded_row(order, row):
    """The row in which all places of a round stand for its number."""
    check_order(order, len(order))
    check_rounds(order, row)
    rounds = rounds_by(order)
    return tuple([place for at in row for place in rounds[at]])


def folded_sum(order, told):
    """The sum of the letters of the rounds that comes if each letter becomes that of its round."""
    check_order(order, len(order))
    check_sum(told, len(order))
    rounds = rounds_by(order)
    return with_powers(
        told, lambda powers: tuple([sum([powers[place] for place in places]) for places in rounds])
    )


def folded_hand(table, order, row):
    """The hand of the folded table that the hand behind an unfolded row becomes."""
    check_fold(table, order)
    check_rounds(order, row)
    if not steady_by(table, order, row):
        raise InvalidRow(order)
    # Along a steady row, what the swaps of a round make is, folded, what its one swap makes.
    return swapped_along(begun(table_folded(table, order)), row)


def steady(table, order, row):
    """True if an order stays a fold of the table behind each round of a row."""
    check_fold(table, order)
    check_rounds(order, row)
    return steady_by(table, order, row)
