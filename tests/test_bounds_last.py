"""A call of each function of folds to desk at the bounds of point [2] and of their sections."""
import itertools
import unittest

from helping import A4, B2, C3, D4, G2, MARKS, TWO, Timed, blocks, random_row, random_sum, with_marks
from neverhalves import belts, boards, ends, folds, hands, live

SIX = ((0,) * 6,) * 6
FULL_SIX = tuple(tuple(0 if at == far else 2 if far > at else -2 for far in range(6)) for at in range(6))
RING = tuple(tuple(2 if (far - at) % 6 == 1 else -2 if (at - far) % 6 == 1 else 0 for far in range(6)) for at in range(6))
E6 = ((0, 1, 0, 0, 0, 0), (-1, 0, -1, 0, 0, 0), (0, 1, 0, 1, 0, 1), (0, 0, -1, 0, -1, 0), (0, 0, 0, 1, 0, 0),
      (0, 0, -1, 0, 0, 0))
D4_BELT = ((0, 1, 1, 1), (-1, 0, 0, 0), (-1, 0, 0, 0), (-1, 0, 0, 0))
A4_BELT = ((0, 1, 0, 0), (-1, 0, -1, 0), (0, 1, 0, 1), (0, 0, -1, 0))
HIGH = ((0, 0, 4, 4), (0, 0, 4, 4), (-4, -4, 0, 0), (-4, -4, 0, 0))


class Bounds(Timed):
    def test_folds(self):
        self.assertEqual(len(folds.folds(SIX)), 719)
        for table in (SIX, FULL_SIX, RING, E6, blocks(D4, TWO), blocks(TWO, TWO, TWO)):
            for order in itertools.permutations(range(6)):
                folds.is_fold(table, order)
            for order in folds.folds(table)[:30]:
                rounds = len(folds.rounds_of(order))
                self.assertEqual(len(folds.folded(table, order)), rounds)
                for row in itertools.product(range(rounds), repeat=4):
                    folds.steady(table, order, row)
        order = (4, 3, 2, 1, 0, 5)
        for row in itertools.product(range(4), repeat=4):
            self.assertEqual(len(folds.folded_hand(E6, order, row)[0]), 4)
        told = random_sum(1, 300, 12, 40, 30)
        self.assertEqual(len(folds.folded_sum(tuple(range(12)), told)), 300)
        for seed in range(12):
            self.assertTrue(folds.folded_sum(tuple(range(seed, 12)) + tuple(range(seed)), told))
        self.assertEqual(len(folds.unfolded_row((1, 2, 3, 4, 5, 0), (0,) * 4)), 24)
        # What folds.py takes goes to boards.py and hands.py, too.
        hand = hands.hand_by(E6, (0, 2, 4, 1))
        self.assertEqual(hands.same_hands(hand, hand), tuple(range(6)))
        self.assertEqual(hands.same_hands(hands.first_hand(SIX), hands.first_hand(SIX)), tuple(range(6)))
        self.assertEqual(len(boards.first_renamed(RING)), 6)

    def test_belts(self):
        for table in (A4_BELT, D4_BELT, blocks(TWO, G2), blocks(B2, G2), blocks(TWO, TWO), blocks(((0,),), G2)):
            board = with_marks(table, *[row[:len(table)] for row in MARKS])
            for turns in range(31):
                belts.belt_hand(board, turns)
            self.assertEqual(len(belts.belt_values(board, 30)), 31)
            half, whole = belts.half_length(board), belts.belt_length(board)
            self.assertLessEqual(half, whole)
            self.assertEqual(len(belts.belt_sums(board)), ends.how_many_sums(board))
        self.assertEqual(belts.belt_length(blocks(TWO, G2)), 40)
        board = with_marks(HIGH, *MARKS)
        self.assertEqual(len(belts.belt_values(board, 6)), 7)
        self.assertEqual(len(belts.belt(board, 30)), 60)
        self.assertTrue(belts.belt_hand(with_marks(((0, 4), (-4, 0)), (4, -4)), 3))
        self.assertEqual(len(belts.belt_hand(with_marks(((0, 2), (-2, 0)), *[row[:2] for row in MARKS]), 6)[0]), 2)
        self.assertIs(belts.is_parted(board), True)
        self.assertEqual(belts.turn_places(board, 10 ** 30), (0, 1))

    def test_live(self):
        for table in (A4, D4, C3):
            board = with_marks(table, *[row[:len(table)] for row in MARKS])
            for seed in range(5):
                row = random_row(seed, len(table), 12)
                one = live.Live(board)
                one.do(row)
                self.assertEqual((tuple(one.sums), one.board), hands.hand_by(board, row))
                self.assertEqual(len(one.columns()) + len(one.heights()), 2 * len(table))
                numbers = [10 ** 30 - 1 - 2 * at for at in range(len(board))]
                self.assertEqual(len(one.worth(row[-1], numbers)), 2)
                one.order()
                other = one.twin()
                while len(other):
                    other.undo()
                self.assertEqual(len(one), 12)
        steep = with_marks(((0, 2), (-2, 0)), *[row[:2] for row in MARKS])
        one = live.Live(steep)
        one.do((0, 1) * 4)
        self.assertEqual(len(one), 8)


if __name__ == "__main__":
    unittest.main()
