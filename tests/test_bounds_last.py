"""A call of each function of folds to desk at the bounds of point [2] and of their sections."""
import itertools
import unittest

from helping import (
    A4, B2, B4, C3, C4, D4, F4, G2, MARKS, SQUARE, TWO, Timed, blocks, random_row, random_sum, with_marks,
)
from neverhalves import belts, boards, books, desk, ends, folds, hands, live, readers, texts

SIX = ((0,) * 6,) * 6
FULL_SIX = tuple(tuple(0 if at == far else 2 if far > at else -2 for far in range(6)) for at in range(6))
RING = tuple(tuple(2 if (far - at) % 6 == 1 else -2 if (at - far) % 6 == 1 else 0 for far in range(6)) for at in range(6))
E6 = ((0, 1, 0, 0, 0, 0), (-1, 0, -1, 0, 0, 0), (0, 1, 0, 1, 0, 1), (0, 0, -1, 0, -1, 0), (0, 0, 0, 1, 0, 0),
      (0, 0, -1, 0, 0, 0))
D4_BELT = ((0, 1, 1, 1), (-1, 0, 0, 0), (-1, 0, 0, 0), (-1, 0, 0, 0))
A4_BELT = ((0, 1, 0, 0), (-1, 0, -1, 0), (0, 1, 0, 1), (0, 0, -1, 0))
HIGH = ((0, 0, 4, 4), (0, 0, 4, 4), (-4, -4, 0, 0), (-4, -4, 0, 0))


class Bounds(Timed):
    def test_folds(self):
        self.assertEqual(len(folds.folds(SIX)), 719)
        for table in (SIX, FULL_SIX, RING, E6, blocks(D4, TWO), blocks(TWO, TWO, TWO)):
            for order in itertools.permutations(range(6)):
                folds.is_fold(table, order)
            for order in folds.folds(table)[:30]:
                rounds = len(folds.rounds_of(order))
                self.assertEqual(len(folds.folded(table, order)), rounds)
                for row in itertools.product(range(rounds), repeat=4):
                    folds.steady(table, order, row)
        order = (4, 3, 2, 1, 0, 5)
        for row in itertools.product(range(4), repeat=4):
            self.assertEqual(len(folds.folded_hand(E6, order, row)[0]), 4)
        told = random_sum(1, 300, 12, 40, 30)
        self.assertEqual(len(folds.folded_sum(tuple(range(12)), told)), 300)
        for seed in range(12):
            self.assertTrue(folds.folded_sum(tuple(range(seed, 12)) + tuple(range(seed)), told))
        self.assertEqual(len(folds.unfolded_row((1, 2, 3, 4, 5, 0), (0,) * 4)), 24)
        # What folds.py takes goes to boards.py and hands.py, too.
        hand = hands.hand_by(E6, (0, 2, 4, 1))
        self.assertEqual(hands.same_hands(hand, hand), tuple(range(6)))
        self.assertEqual(hands.same_hands(hands.first_hand(SIX), hands.first_hand(SIX)), tuple(range(6)))
        self.assertEqual(len(boards.first_renamed(RING)), 6)

    def test_belts(self):
        for table in (A4_BELT, D4_BELT, blocks(TWO, G2), blocks(B2, G2), blocks(TWO, TWO), blocks(((0,),), G2)):
            board = with_marks(table, *[row[:len(table)] for row in MARKS])
            for turns in range(31):
                belts.belt_hand(board, turns)
            self.assertEqual(len(belts.belt_values(board, 30)), 31)
            half, whole = belts.half_length(board), belts.belt_length(board)
            self.assertLessEqual(half, whole)
            self.assertEqual(len(belts.belt_sums(board)), ends.how_many_sums(board))
        self.assertEqual(belts.belt_length(blocks(TWO, G2)), 40)
        board = with_marks(HIGH, *MARKS)
        self.assertEqual(len(belts.belt_values(board, 6)), 7)
        self.assertEqual(len(belts.belt(board, 30)), 60)
        self.assertTrue(belts.belt_hand(with_marks(((0, 4), (-4, 0)), (4, -4)), 3))
        self.assertEqual(len(belts.belt_hand(with_marks(((0, 2), (-2, 0)), *[row[:2] for row in MARKS]), 6)[0]), 2)
        self.assertIs(belts.is_parted(board), True)
        self.assertEqual(belts.turn_places(board, 10 ** 30), (0, 1))

    def test_live(self):
        for table in (A4, D4, C3):
            board = with_marks(table, *[row[:len(table)] for row in MARKS])
            for seed in range(5):
                row = random_row(seed, len(table), 12)
                one = live.Live(board)
                one.do(row)
                self.assertEqual((tuple(one.sums), one.board), hands.hand_by(board, row))
                self.assertEqual(len(one.columns()) + len(one.heights()), 2 * len(table))
                numbers = [10 ** 30 - 1 - 2 * at for at in range(len(board))]
                self.assertEqual(len(one.worth(row[-1], numbers)), 2)
                one.order()
                other = one.twin()
                while len(other):
                    other.undo()
                self.assertEqual(len(one), 12)
        steep = with_marks(((0, 2), (-2, 0)), *[row[:2] for row in MARKS])
        one = live.Live(steep)
        one.do((0, 1) * 4)
        self.assertEqual(len(one), 8)

    def test_books(self):
        half = ((0, 2, -2, 2), (-2, 0, 2, -2), (2, -2, 0, 2), (-2, 2, -2, 0))
        for table in (half, SQUARE, F4, D4, A4, ((0, 0, 0, 0),) * 4, ((0, 2, 0, 0), (-2, 0, 2, 0), (0, -2, 0, 2), (0, 0, -2, 0))):
            board = with_marks(table, *MARKS)
            for seed in range(4):
                row = random_row(seed, 4, 6)
                least = books.least_row(board, row)
                self.assertIs(books.lead_alike(board, row, least), True)
                self.assertIs(books.is_nothing(board, books.behind(row, books.back(row))), True)
                self.assertIs(books.is_turn(board, row), least == ())
                self.assertEqual(books.order_behind(board, row) is None, least != ())
            for length in range(7):
                for row in books.rows_back(board, length):
                    self.assertEqual(len(row), length)
        for table in (F4, B4, C4):
            board = with_marks(table, *MARKS)
            for seed in range(4):
                row = random_row(seed, 4, 12)
                wanted = hands.hand_by(board, row) == hands.first_hand(board)
                self.assertIs(books.is_nothing(board, row), wanted)
                self.assertIs(books.lead_alike(board, row, random_row(seed + 4, 4, 11)), False)

    def test_texts(self):
        for seed in range(5):
            told = random_sum(seed, 60, 12, 40, 29)
            text = texts.show_sum(told)
            self.assertLess(len(text), 7000)
            self.assertEqual(readers.read_sum(text, 12), told)
        wide = with_marks(F4, *MARKS)
        for seed in range(5):
            hand = hands.hand_by(wide, random_row(seed, 4, 12))
            self.assertEqual(readers.read_hand(texts.show_hand(hand)), hand)
        big = boards.beside(boards.beside(wide, wide), boards.beside(wide, wide))
        self.assertEqual(readers.read_board(texts.show_board(big)), big)
        self.assertEqual(len(texts.show_numbers([(10 ** 3999, 10 ** 3999 - 1)])), 4000 + 1 + 3999)
        self.assertEqual(len(readers.read_row(texts.show_row((10 ** 29,) * 160))), 160)

    def test_desk(self):
        one = desk.Desk()
        one.put("b", with_marks(D4, *MARKS[:2]))
        one.put("g", with_marks(G2, (1, -1)))
        one.note("r", (0, 1, 2, 3, 0, 1, 2, 3, 0, 1, 2, 3))
        while len(one) < 290:
            one.make("s", ("swapped", "b", "r"))
            one.make("n", ("negative", "s"))
            one.branch("f" + "abcdefghijklmnopqrstuvwxyz"[len(one) // 26] + "abcdefghijklmnopqrstuvwxyz"[len(one) % 26])
            one.make("w", ("beside", "s", "n"))
            one.make("w", ("beside", "w", "g"))
        self.assertEqual(one.types("w"), [("D", 4), ("D", 4), ("G", 2)])
        self.assertEqual(len(one.hand("w", "r")[0]), 10)
        for _ in range(3):
            one.make("w", ("beside", "w", "w"))
        self.assertEqual(boards.size(one.board_named("w")), (80, 40))
        one.order("unit w w")
        one.order("turned w w")
        self.assertEqual(len(one.board_named("w")), 80)
        many = len(one)
        for _ in range(many):
            one.undo()
        self.assertEqual((one.names(), one.forks()), ([], ["main"]))


if __name__ == "__main__":
    unittest.main()
