"""neverhalves/boards.py: its row of errors, and the order of it."""
import unittest

from helping import LONE, THREE, TWO, Case, with_marks
from neverhalves.boards import (
    beside, first_renamed, marked, negative, part, pieces, renamed, size, swapped, swapped_by,
    table, turned, unit_board, weights, without_mark,
)
from neverhalves.errors import InvalidBoard, InvalidPlace, InvalidRow

HUGE = 10 ** 30
WRONG = [
    (), ((),), ((1,),), ((0, 1), (1, 0)), ((0, 1),), ((0, 1), (-1,)), ((0, 1), (-1, 0), (1,)),
    ((0, 1, -1), (-1, 0, 1), (1, -2, 0)),
]
MARKED = with_marks(TWO, (1, 2), (3, 4))


class Errors(Case):
    def test_wrong_boards(self):
        for wrong in WRONG:
            for function in (size, weights, pieces, table, unit_board, negative, turned, first_renamed):
                self.fails(InvalidBoard, wrong, function, wrong)
                self.fails(InvalidBoard, wrong, function, board=wrong)
            # A wrong board comes ahead of all that is wrong behind it.
            self.fails(InvalidBoard, wrong, swapped, wrong, -1)
            self.fails(InvalidBoard, wrong, swapped_by, wrong, (-1,))
            self.fails(InvalidBoard, wrong, marked, wrong, [(1,) * 9])
            self.fails(InvalidBoard, wrong, without_mark, wrong, -1)
            self.fails(InvalidBoard, wrong, renamed, wrong, (5, 5))
            self.fails(InvalidBoard, wrong, part, wrong, [])
            self.fails(InvalidBoard, wrong, part, board=wrong, places=[9, -1])

    def test_beside(self):
        for wrong in WRONG:
            self.fails(InvalidBoard, wrong, beside, wrong, TWO)
            self.fails(InvalidBoard, wrong, beside, TWO, wrong)
            self.fails(InvalidBoard, wrong, beside, one=wrong, other=WRONG[0])
        self.fails(InvalidBoard, WRONG[3], beside, WRONG[3], WRONG[2])

    def test_places(self):
        for place in (-1, 2, 3, HUGE, -HUGE):
            self.fails(InvalidPlace, place, swapped, TWO, place)
            self.fails(InvalidPlace, place, swapped, board=MARKED, place=place)
        for place in (-1, 1, HUGE):
            self.fails(InvalidPlace, place, swapped, LONE, place)

    def test_rows(self):
        for row in [(-1,), (2,), (0, 1, 2), (HUGE,), (0, -HUGE, 5), (0, 1, 0, 1, -2)]:
            self.fails(InvalidRow, row, swapped_by, TWO, row)
            self.fails(InvalidRow, row, swapped_by, board=MARKED, row=row)

    def test_marked(self):
        for row in [(), (1,), (1, 2, 3)]:
            self.fails(InvalidRow, row, marked, TWO, [row])
            self.fails(InvalidRow, row, marked, MARKED, [(1, 2), row, (1, 2), (9,)])
            self.fails(InvalidRow, row, marked, board=TWO, rows=[(0, 0), row])

    def test_without_mark(self):
        for at in (-1, 0, 1, HUGE):
            self.fails(InvalidPlace, at, without_mark, TWO, at)
        for at in (-1, 2, 3, HUGE, -HUGE):
            self.fails(InvalidPlace, at, without_mark, MARKED, at)
            self.fails(InvalidPlace, at, without_mark, board=MARKED, at=at)

    def test_orders(self):
        for order in [(), (0,), (0, 1), (0, 1, 1), (0, 1, 3), (1, 2, 3), (-1, 0, 1), (0, 1, 2, 2), (0, 1, 2, 3),
                      (2, 1, HUGE)]:
            self.fails(InvalidRow, order, renamed, THREE, order)
            self.fails(InvalidRow, order, renamed, board=THREE, order=order)

    def test_places_of_a_part(self):
        for places in [[], [0, 0], [1, 0], [0, 2, 1], [2, 2, 2]]:
            self.fails(InvalidRow, places, part, THREE, places)
            self.fails(InvalidRow, places, part, board=THREE, places=places)
        for place in (-1, 3, HUGE, -HUGE):
            self.fails(InvalidPlace, place, part, THREE, [place])
            self.fails(InvalidPlace, place, part, THREE, [0, place, -HUGE])
            # What is no place comes ahead of places that do not ascend.
            self.fails(InvalidPlace, place, part, THREE, [2, 1, 1, place])
            self.fails(InvalidPlace, place, part, board=THREE, places=[place, 0, 0])

    def test_errors_hold_new_lists(self):
        places = [1, 0]
        held = []
        for _ in range(2):
            with self.assertRaises(InvalidRow) as caught:
                part(THREE, places)
            held.append(caught.exception.value)
        held[0].append(7)
        self.assertEqual(held[1], [1, 0])
        self.assertEqual(places, [1, 0])


if __name__ == "__main__":
    unittest.main()
