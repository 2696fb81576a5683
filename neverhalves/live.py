"""A hand that is swapped, place by place, and can be taken back."""
from neverhalves.boards import check_board, check_place, check_row
from neverhalves.columns import columns_of, green_places, units_behind
from neverhalves.errors import NothingToUndo
from neverhalves.hands import begun, same_hands, swapped_at
from neverhalves.heights import heights_behind
from neverhalves.sums import value


class Live:
    """A hand, at first the first one of a board; it keeps the hands on its way."""

    def __init__(self, board):
        check_board(board)
        self._hands = [begun(board)]
        self._row = []

    @property
    def board(self):
        """The board of the hand now."""
        return self._hands[-1][1]

    @property
    def sums(self):
        """The list of the sums of the hand now."""
        return list(self._hands[-1][0])

    @property
    def row(self):
        """The tuple of the places swapped so far that stand."""
        return tuple(self._row)

    @property
    def first(self):
        """The board that was passed."""
        return self._hands[0][1]

    def __len__(self):
        """How many swaps stand."""
        return len(self._row)

    def swap(self, place):
        """Swaps at a place."""
        check_place(self.first, place)
        self._hands.append(swapped_at(self._hands[-1], place))
        self._row.append(place)

    def do(self, row):
        """Swaps at all places of a row, from the left."""
        check_row(self.first, row)
        for place in row:
            self.swap(place)

    def undo(self):
        """Takes the last swap back, also of a row."""
        if not self._row:
            raise NothingToUndo(0)
        self._hands.pop()
        self._row.pop()

    def sum_now(self, place):
        """The sum at a place."""
        check_place(self.first, place)
        return self._hands[-1][0][place]

    def worth(self, place, numbers):
        """The value (top, bottom) of the sum at a place for a list of integers but 0."""
        return value(self.sum_now(place), numbers)

    def columns(self):
        """The list of the columns behind the row so far."""
        return columns_of(units_behind(self.first, self.row))

    def heights(self):
        """The list of the heights behind the row so far."""
        return heights_behind(self.first, self.row)

    def greens(self):
        """The ascending list of the places that are green behind the row so far."""
        return green_places(units_behind(self.first, self.row))

    def twin(self):
        """A new one with the same first board and row, which does not change with this one."""
        other = Live(self.first)
        other._hands = list(self._hands)
        other._row = list(self._row)
        return other

    def order(self):
        """What `same_hands` tells of the hand now and the first one."""
        return same_hands(self._hands[-1], self._hands[0])
