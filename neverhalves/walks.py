"""All hands of a board with finitely many, found from one to the next, without their sums.

The columns behind a row tell its hand, and the height of a sum tells the sum. Both are
packed into integers, with so many bits for each number: they add as tuples do, and a
column is above 0 if its place is green. In boards with finitely many hands they are small.
"""
from math import gcd

from neverhalves.boards import swap_once

BITS = 6

# No height of a board with finitely many hands has a greater number, in pieces of at most four places.
MOST_HEIGHT = 4


def packs_then(packs, line, place):
    """The packed columns behind a swap, of those ahead of it and the row of the place in the table."""
    lead = packs[place]
    if lead > 0:
        then = [pack + lead * entry if entry > 0 else pack for pack, entry in zip(packs, line)]
    else:
        then = [pack - lead * entry if entry < 0 else pack for pack, entry in zip(packs, line)]
    then[place] = -lead
    return then


class Walk:
    """The hands that come of a board, in the order of their first rows, as far as it has come.

    Of each hand, by its index: its first row, its table, its columns, the numbers of its
    sums, and the indexes of the hands one swap from it, None as long as these are not known.
    Of each sum, by its number: its height, and, but for the letters, a hand and a place at
    which one swap makes it.
    """

    def __init__(self, board):
        many = len(board[0])
        places = list(range(many))
        units = [1 << (BITS * (many - 1 - at)) for at in places]
        self.rows = [()]
        self.tables = [board[:many]]
        self.packs = [units]
        self.hands = [tuple(places)]
        self.links = [[None] * many]
        self.degrees = list(units)
        self.origins = [None] * many
        self._many = many
        self._done = 0
        self._known = {tuple(sorted(units)): 0}
        self._numbers = {unit: at for at, unit in enumerate(units)}

    def number_at(self, height):
        """The number of the sum with a height, packed; None if no hand has it so far."""
        return self._numbers.get(height)

    def goes_on(self):
        """Finds the hands one swap from the next one, False if that was done for all of them."""
        at = self._done
        if at == len(self.rows):
            return False
        links = self.links[at]
        for place in range(self._many):
            # A swap that was met from the other side is known.
            if links[place] is None:
                links[place] = self._swapped(at, place)
        self._done = at + 1
        return True

    def _swapped(self, at, place):
        """The index of the hand to which a swap leads, also of a new one."""
        then = packs_then(self.packs[at], self.tables[at][place], place)
        lot = tuple(sorted(then))
        index = self._known.get(lot)
        if index is None:
            index = len(self.rows)
            self._known[lot] = index
            self._add(at, place, then)
        else:
            # The place at which a swap leads back has the column with the other sign.
            place = self.packs[index].index(then[place])
        self.links[index][place] = at
        return index

    def _add(self, at, place, packs):
        """Adds the hand to which a swap leads."""
        hand = self.hands[at]
        self.rows.append(self.rows[at] + (place,))
        self.tables.append(swap_once(self.tables[at], place))
        self.packs.append(packs)
        self.hands.append(hand[:place] + (self._number(at, place),) + hand[place + 1:])
        self.links.append([None] * len(packs))

    def _number(self, at, place):
        """The number of the sum that a swap makes, also of a new one."""
        # The product in which no mark stands has the degree of both.
        sign = -1 if self.packs[at][place] > 0 else 1
        hand = self.hands[at]
        height = -self.degrees[hand[place]]
        for line, number in zip(self.tables[at], hand):
            if sign * line[place] > 0:
                height += sign * line[place] * self.degrees[number]
        if height not in self._numbers:
            self._numbers[height] = len(self.degrees)
            self.degrees.append(height)
            self.origins.append((at, place))
        return self._numbers[height]


def walked(board):
    """The walk over all hands of a board."""
    walk = Walk(board)
    while walk.goes_on():
        pass
    return walk


def packed_height(height):
    """A height as walks have it, None if it surely is none."""
    key, common = 0, 0
    for power in height:
        if abs(power) > MOST_HEIGHT:
            return None
        key = (key << BITS) + power
        common = gcd(common, power)
    # The heights of a hand have the determinant 1 or -1.
    return key if common == 1 else None


def row_to_heights(board, told):
    """The first row to a hand among whose heights all of a list are, None if there is none."""
    wanted = [packed_height(height) for height in told]
    if None in wanted:
        return None
    walk = Walk(board)
    at = 0
    while True:
        numbers = [walk.number_at(height) for height in wanted]
        if None not in numbers:
            for hand in walk.hands[at:]:
                if all([number in hand for number in numbers]):
                    return walk.rows[at]
                at += 1
        at = len(walk.hands)
        if not walk.goes_on():
            return None


def depths_of_walk(walk):
    """The list of the depths of the sums, by their numbers: nothing cancels in the least powers."""
    many = len(walk.hands[0])
    places = range(many)
    found = [tuple([-1 if at == place else 0 for at in places]) for place in places]
    for at, place in walk.origins[many:]:
        above, below = [0] * many, [0] * many
        for line, number in zip(walk.tables[at], walk.hands[at]):
            entry = line[place]
            if entry > 0:
                above = [high + entry * far for high, far in zip(above, found[number])]
            elif entry < 0:
                below = [low - entry * far for low, far in zip(below, found[number])]
        own = found[walk.hands[at][place]]
        found.append(tuple([max(high, low) - far for high, low, far in zip(above, below, own)]))
    return found
