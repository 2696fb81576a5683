"""neverhalves/hands.py: its row of errors, and the order of it."""
import unittest

from helping import LONE, THREE, TWO, Case, with_marks
from neverhalves.errors import InvalidBoard, InvalidHand, InvalidPlace, InvalidRow
from neverhalves.hands import (
    beside_hands, first_hand, hand_by, products, same_hands, sum_by, swapped_hand,
)

HUGE = 10 ** 30
X, Y = (((1, 0), 1),), (((0, 1), 1),)
WRONG_BOARDS = [(), ((),), ((1,),), ((0, 1), (1, 0)), ((0, 1),), ((0, 1), (-1, 0), (1,))]
WRONG_HANDS = [((X, Y), board) for board in WRONG_BOARDS] + [
    ((), ()), ((), TWO), ((X,), TWO), ((X, Y, X), TWO),
    ((X, (((0, 1, 0), 1),)), TWO), (((((1,), 1),), Y), TWO), ((X, Y), with_marks(TWO, (1, 1))),
    ((X, ()), TWO), (((), Y), TWO), (((), ()), TWO),
    ((X, (((1, 0), 1), ((0, 1), 1))), TWO), (((((0, 1), 1), ((0, 1), 1)), Y), TWO),
    ((X, (((0, 1), 0),)), TWO), (((((0, 1), 1), ((1, 0), 0)), Y), TWO),
]


class Errors(Case):
    def test_wrong_hands(self):
        right = first_hand(TWO)
        for wrong in WRONG_HANDS:
            for function in (products, swapped_hand):
                for place in (0, -1, HUGE):
                    self.fails(InvalidHand, wrong, function, wrong, place)
                self.fails(InvalidHand, wrong, function, hand=wrong, place=1)
            self.fails(InvalidHand, wrong, same_hands, wrong, right)
            self.fails(InvalidHand, wrong, same_hands, right, wrong)
            self.fails(InvalidHand, wrong, same_hands, first_hand(THREE), wrong)
            self.fails(InvalidHand, wrong, same_hands, one=wrong, other=WRONG_HANDS[0])
        self.fails(InvalidHand, WRONG_HANDS[2], same_hands, WRONG_HANDS[2], WRONG_HANDS[1])

    def test_a_sum_that_became_nought_is_refused(self):
        told = swapped_hand(((X, (((0, 0), -1),)), TWO), 0)
        self.assertEqual(told[0][0], ())
        self.fails(InvalidHand, told, swapped_hand, told, 0)
        self.fails(InvalidHand, told, products, told, 1)

    def test_wrong_boards(self):
        for wrong in WRONG_BOARDS:
            self.fails(InvalidBoard, wrong, first_hand, wrong)
            self.fails(InvalidBoard, wrong, first_hand, board=wrong)
            for function in (hand_by, beside_hands, sum_by):
                for row in ((), (0,), (-1,), (HUGE, 0)):
                    self.fails(InvalidBoard, wrong, function, wrong, row)
                self.fails(InvalidBoard, wrong, function, board=wrong, row=(5,))

    def test_places(self):
        for place in (-1, 2, 3, HUGE, -HUGE):
            for function in (products, swapped_hand):
                self.fails(InvalidPlace, place, function, first_hand(TWO), place)
                self.fails(InvalidPlace, place, function, hand=first_hand(with_marks(TWO, (1, 1))), place=place)
        self.fails(InvalidPlace, 1, swapped_hand, first_hand(LONE), 1)

    def test_a_place_comes_ahead_of_a_rest(self):
        hand = ((X, (((0, 0), 7),)), TWO)
        self.fails(InvalidPlace, 2, swapped_hand, hand, 2)

    def test_rows(self):
        for row in [(-1,), (2,), (0, 1, 2), (HUGE,), (0, -HUGE, 5), (0, 1, 0, 1, -2)]:
            for function in (hand_by, beside_hands, sum_by):
                self.fails(InvalidRow, row, function, TWO, row)
                self.fails(InvalidRow, row, function, board=with_marks(TWO, (3, 3)), row=row)

    def test_the_sum_of_no_row(self):
        self.fails(InvalidRow, (), sum_by, TWO, ())
        self.fails(InvalidRow, (), sum_by, board=LONE, row=())


if __name__ == "__main__":
    unittest.main()
