"""Hands that come of a row, swapped with their sums packed.

Such sums have coefficients above 0 alone. So nothing cancels where they are multiplied or
divided, and each division comes out.
"""
from neverhalves.boards import swap_once
from neverhalves.terms import packed, packed_plus, packed_times, reach_of, unpacked, whole_power, width_for


def swaps_along(board, row):
    """The list of the tuples (place, its column just ahead of the swap), and the board behind a row."""
    steps = []
    for place in row:
        steps.append((place, [line[place] for line in board]))
        board = swap_once(board, place)
    return steps, board


def reach_then(reaches, place, column):
    """How far from 0 powers go at the most in the sum that a swap makes, of sums that reach so far."""
    above, below = 0, 0
    for entry, reach in zip(column, reaches):
        if entry > 0:
            above += entry * reach
        else:
            below -= entry * reach
    spare = max([abs(entry) for entry in column[len(reaches):]] + [0])
    return reaches[place] + max(above, below) + spare


def product_packed(factors, key):
    """The product of packed sums, each with a power from 1 on, and of the letters that a key packs."""
    coefficient = 1
    wide = []
    for terms, times in factors:
        if len(terms) > 1:
            wide.append((terms, times))
            continue
        for own, factor in terms.items():
            key += own * times
            coefficient = coefficient * whole_power(factor, times)
    product = {key: coefficient}
    for terms, times in wide:
        for _ in range(times):
            product = packed_times(product, terms)
    return product


def quotient_packed(one, other):
    """The quotient of packed sums with coefficients above 0 alone, of which it is sure that there is one."""
    least = min(other)
    lead = other[least]
    tail = [(key - least, other[key]) for key in other if key != least]
    rest = {key: one[key] for key in one}
    found = {}
    for key in sorted(one):
        if rest[key]:
            quotient = rest[key] // lead
            found[key - least] = quotient
            for step, factor in tail:
                rest[key + step] -= quotient * factor
    return found


def exchanged(packs, column, place, units):
    """The packed sum that a swap makes of packed sums; the units pack the letters of the marks."""
    above, below = [], []
    high, low = 0, 0
    for entry, terms in zip(column, packs):
        if entry > 0:
            above.append((terms, entry))
        elif entry < 0:
            below.append((terms, -entry))
    for entry, unit in zip(column[len(packs):], units):
        if entry > 0:
            high += entry * unit
        else:
            low -= entry * unit
    both = packed_plus(product_packed(above, high), product_packed(below, low))
    return quotient_packed(both, packs[place])


def units_for(many, bits):
    """What packs the last so many letters, in their order."""
    return [1 << (bits * at) for at in reversed(range(many))]


def takes_part(at, steps):
    """True if the sum at a place is swapped, or multiplied, by some swaps."""
    return any([place == at or column[at] for place, column in steps])


def packs_along(sums, steps):
    """The list of the packed sums behind some swaps, () of those that take no part, and the bits of a letter."""
    parts = [takes_part(at, steps) for at in range(len(sums))]
    reaches = [reach_of(told) if part else 0 for told, part in zip(sums, parts)]
    far = max(reaches + [1])
    for place, column in steps:
        reaches[place] = reach_then(reaches, place, column)
        far = max(far, reaches[place])
    bits = width_for(far)
    packs = [packed(told, bits) if part else () for told, part in zip(sums, parts)]
    for place, column in steps:
        packs[place] = exchanged(packs, column, place, units_for(len(column) - len(sums), bits))
    return packs, bits


def swapped_along(hand, row):
    """A hand that comes of a row, swapped at the places of a row, from the left."""
    sums, board = hand
    steps, then = swaps_along(board, row)
    packs, bits = packs_along(sums, steps)
    told = list(sums)
    for place in sorted(set(row)):
        told[place] = unpacked(packs[place], len(board), bits)
    return tuple(told), then


def sum_along(hand, row, place):
    """The sum at a place of a hand that comes of a row, swapped at the places of a row."""
    if place not in row:
        return hand[0][place]
    sums, board = hand
    packs, bits = packs_along(sums, swaps_along(board, row)[0])
    return unpacked(packs[place], len(board), bits)


def board_behind(boards, row):
    """The board behind a row, kept in a dict of boards by rows, in which that of () is."""
    if row not in boards:
        boards[row] = swap_once(board_behind(boards, row[:-1]), row[-1])
    return boards[row]


def swaps_of_walk(board, walk):
    """For each sum of a walk but the letters, by numbers: the numbers of its hand, the place and its column."""
    boards = {(): board}
    found = []
    for at, place in walk.origins[len(board[0]):]:
        now = board_behind(boards, walk.rows[at])
        found.append((walk.hands[at], place, [line[place] for line in now]))
    return found


def sums_of_walk(sums, board, walk):
    """The list of the sums of all hands, by their numbers in a walk; the sums of the first hand are told."""
    swaps = swaps_of_walk(board, walk)
    reaches = [reach_of(told) for told in sums]
    for hand, place, column in swaps:
        reaches.append(reach_then([reaches[number] for number in hand], place, column))
    bits = width_for(max(reaches + [1]))
    packs = [packed(told, bits) for told in sums]
    units = units_for(len(board) - len(sums), bits)
    for hand, place, column in swaps:
        packs.append(exchanged([packs[number] for number in hand], column, place, units))
    return [unpacked(terms, len(board), bits) for terms in packs]
