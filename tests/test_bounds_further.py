"""A call of each function of polygons to alikes at the bounds of point [2] and of their sections."""
import itertools
import unittest

from helping import (
    A4, B4, C4, D4, F4, MARKOV, MARKS, SQUARE, Timed, as_sum, letters_added, random_row, random_sum, units, with_marks,
)
from neverhalves import alikes, boards, columns, depths, ends, hands, heights, longrows, marks, polygons, sums

WIDE = with_marks(F4, *MARKS)
FULL = tuple(tuple(0 if at == far else 4 if far > at else -4 for far in range(4)) for at in range(4))
HALF = ((0, 2, -2, 2), (-2, 0, 2, -2), (2, -2, 0, 2), (-2, 2, -2, 0))
TABLES = (A4, B4, C4, D4, F4)
# Boards that the program told, with entries beyond 4 and marks beyond eight.
FAR = boards.swapped_by(with_marks(D4, *MARKS + MARKS[:5]), (0, 1, 2))


class Bounds(Timed):
    def test_polygons(self):
        found = polygons.cuts(7)
        self.assertEqual(len(found), 42)
        for cut in found:
            self.assertIs(polygons.is_cut(7, cut[::-1]), True)
            self.assertEqual(len(polygons.lengths(7, cut[::-1])), 7)
            self.assertEqual(len(polygons.board_of(7, cut, True)), 11)
            self.assertEqual(polygons.exchanged(7, polygons.exchanged(7, cut, 3), 3), cut)
            for line in itertools.combinations(range(7), 2):
                self.assertTrue(polygons.diagonal_sum(7, cut, line, True))
            self.assertLessEqual(len(polygons.row_to(7, found[0], cut)), 5)

    def test_values(self):
        numbers = [10 ** 30 - 1 - 2 * at for at in range(12)]
        for table in TABLES:
            board = with_marks(table, *MARKS)
            for seed in range(3):
                self.assertEqual(len(longrows.values(board, random_row(seed, 4, 12), numbers)), 4)
        self.assertEqual(longrows.values(FAR, (0, 1) * 10, [3] * 17), longrows.values(FAR, (), [3] * 17))
        told = longrows.values(((0, 2), (-2, 0)), (0, 1) * 1000, [1, 1])
        self.assertGreater(told[1][0], 10 ** 800)
        self.assertLess(told[1][0], 10 ** 2000)

    def test_long_rows(self):
        steep = ((0, 3), (-3, 0))
        told = longrows.long_values(steep, (0,), 9)
        self.assertEqual(told[8] * told[6], told[7] ** 3 + 1)
        somos = ((0, 1, -2, 1), (-1, 0, 3, -2), (2, -3, 0, 1), (-1, 2, -1, 0))
        board = with_marks(somos, *[(0, 0, 0, 0)] * 8)
        self.assertEqual(longrows.long_row(board, (0, 1, 2, 3), 15), (0, 1, 2, 3) * 15)
        self.assertEqual(len(longrows.long_values(board, (0, 1, 2, 3), 15)), 60)
        self.assertEqual(len(longrows.long_values(board, (0,), 60)), 60)
        self.assertEqual(longrows.order_back(FAR, (1, 2, 3, 1, 2, 3)), (0, 1, 2, 3))
        self.assertEqual(longrows.long_row(A4, (0, 1, 2, 3), 10), (0, 1, 2, 3) * 10)
        self.assertEqual(longrows.comes_round(A4, (0, 1, 2, 3), 10), 7)
        for table in TABLES:
            self.assertEqual(longrows.comes_round(with_marks(table, *[(0,) * 4] * 8), (1, 1), 20), 1)

    def test_columns(self):
        for board in (with_marks(FULL, *MARKS), WIDE, FAR, with_marks(HALF, *MARKS)):
            for seed in range(3):
                row = random_row(seed, 4, 8)
                told = columns.columns(board, row)
                self.assertEqual(len(told), 4)
                green = columns.greens(board, row)
                self.assertEqual(green, [place for place in range(4) if max(told[place]) > 0])
                self.assertIs(columns.is_green(board, row), columns.first_red(board, row) is None)
                self.assertIs(columns.is_full(board, row), columns.is_green(board, row) and not green)
                self.assertIs(columns.by_columns(board, row, row + (1, 1)), True)
        self.assertEqual(len(columns.columns(WIDE, random_row(5, 4, 12))), 4)

    def test_full_rows(self):
        for table in (A4, D4, F4, SQUARE, HALF, ((0, 2, 2, 2), (-2, 0, 2, 2), (-2, -2, 0, 2), (-2, -2, -2, 0))):
            board = with_marks(table, *MARKS)
            found = columns.full_rows(board, 8)
            self.assertEqual(found, sorted(found))
            for row in found[:50]:
                self.assertEqual(sorted(columns.last_order(board, row)), [0, 1, 2, 3])
            first = columns.shortest_full(board, 8)
            if first is not None:
                self.assertIs(columns.is_full(board, first), True)
        self.assertIsNone(columns.shortest_full(MARKOV, 8))

    def test_heights(self):
        for table in TABLES:
            for seed in range(3):
                board, row = with_marks(table, *MARKS), random_row(seed, 4, 12)
                told, found = heights.heights(board, row), heights.shapes(board, row)
                self.assertIn(heights.determinant(told), (-1, 1))
                self.assertEqual([heights.sum_at(board, h, s) for h, s in zip(told, found)],
                                 list(hands.hand_by(board, row)[0]))
                own = hands.hand_by(units(table), row)[0]
                self.assertEqual([heights.height_of(board, one) for one in own], told)
                self.assertEqual([heights.shape_of(board, one) for one in own], found)
        self.assertIn(heights.determinant(heights.heights(FULL, random_row(1, 4, 8))), (-1, 1))
        self.assertEqual(len(heights.heights(FAR, (0, 1, 2, 3))), 4)

    def test_heights_of_wide_sums(self):
        told = random_sum(1, 300, 8, 40, 30)
        self.assertIsNone(heights.height_of(WIDE, told))
        self.assertLessEqual(len(heights.shape_of(WIDE, told)), 300)
        shape = as_sum({**{tuple(map(abs, powers)): many for powers, many in random_sum(2, 299, 4, 40, 30)},
                        (0,) * 4: 1})
        one = heights.sum_at(WIDE, (12, -12, 12, -12), shape)
        self.assertGreater(len(one), 200)
        self.assertEqual(sums.least_powers(one)[4:], (0,) * 8)
        self.assertEqual(len(marks.common_marks(WIDE, shape)), 8)
        rows = [tuple((10 ** 30 - 1 - at * far) * (-1) ** (at * far // 2) for far in range(6)) for at in range(6)]
        self.assertEqual(heights.determinant(rows), -heights.determinant(rows[1:2] + rows[:1] + rows[2:]))

    def test_rows_to_heights(self):
        for table in (D4, A4):
            board = with_marks(table, *MARKS)
            self.assertIsNone(heights.row_to_height(board, (12, -12, 12, -12)))
            for row in ends.all_rows(table):
                self.assertEqual(heights.hand_of_heights(board, heights.heights(table, row)), row)

    def test_marks(self):
        for table in TABLES:
            board = with_marks(table, *MARKS)
            for seed in range(3):
                row = random_row(seed, 4, 12)
                hand = hands.hand_by(board, row)
                self.assertEqual(marks.by_heights(board, row), list(hand[0]))
                self.assertEqual(marks.marks_at(board, row), list(zip(*hand[1][4:])))
                self.assertEqual(marks.mark_freed(hand, 0), hands.hand_by(boards.without_mark(board, 0), row))
                self.assertEqual(len(marks.merged_hand(hand, 7, 0)[1]), 11)
        self.assertEqual(marks.scaled(WIDE, 3, -10 ** 300)[7], (-4 * 10 ** 300,) * 4)
        self.assertEqual(marks.merged(WIDE, 0, 4)[4], (0, -8, 0, -8))
        self.assertEqual(len(marks.merged(FAR, 12, 0)), 16)
        hand = (tuple(random_sum(at, 300, 12, 40, 30) for at in range(4)), WIDE)
        self.assertEqual([len(told) for told in marks.mark_freed(hand, 7)[0]], [300] * 4)
        self.assertEqual([len(told) for told in marks.merged_hand(hand, 7, 6)[0]], [300] * 4)

    def test_depths(self):
        for table, lots in ((A4, 42), (B4, 70), (C4, 70), (D4, 50), (F4, 105)):
            board = with_marks(table, *MARKS[:4])
            found = depths.depths(board)
            self.assertEqual(len(found), ends.how_many_sums(board))
            told = depths.sums_of_depth(board, found[-1])
            self.assertEqual([depths.depth(board, one) for one in told], [found[-1]])
            self.assertIs(depths.go_together(board, told[0], told[0]), True)
            self.assertTrue(depths.hands_with(board, told))
            self.assertEqual(len(depths.hands_with(board, [])), lots)
            self.assertEqual([depths.lots_together(board, many) for many in (0, 1, 4)], [1, len(found), lots])
            row = random_row(4, 4, 11)
            self.assertEqual(depths.partner(with_marks(table, *MARKS), row, row[-1]),
                             hands.hand_by(with_marks(table, *MARKS), row[:-1])[0][row[-1]])
        self.assertEqual(len(depths.depth(WIDE, random_sum(1, 300, 12, 40, 30))), 4)
        self.assertEqual(depths.depth(FAR, letters_added(range(17), 17, 1)), (0,) * 4)

    def test_alikes(self):
        for table in TABLES:
            board = with_marks(table, *MARKS)
            found = alikes.boards_of(board)
            self.assertEqual(alikes.least_board(board), found[0])
            for told in found:
                self.assertIs(alikes.are_alike(board, told), True)
                self.assertIsNotNone(alikes.row_to_board(told, board, 6))
                self.assertIsNotNone(alikes.row_to_tree(told, 6))
        self.assertEqual(alikes.boards_of(FAR), alikes.boards_of(D4))
        for table in (HALF, SQUARE, ((0, 2, 0, 0), (-2, 0, 2, 0), (0, -2, 0, 2), (0, 0, -2, 0))):
            board = with_marks(table, *MARKS)
            self.assertIsNone(alikes.row_to_board(board, FULL, 6))
            alikes.row_to_tree(board, 6)
            self.assertLessEqual(len(alikes.row_to_board(board, boards.swapped_by(board, (0, 2)), 6)), 2)
        self.assertIsNone(alikes.row_to_tree(HALF, 6))
        for board in (with_marks(FULL, *MARKS), FAR, boards.swapped_by(FULL, random_row(2, 4, 12))):
            self.assertEqual(alikes.sources(board), [at for at in range(4) if min(board[at]) >= 0])
            self.assertIn(alikes.directed_round(board), (True, False))
            self.assertIs(alikes.is_tree(board), sum(map(bool, sum(board[:4], ()))) == 6)


if __name__ == "__main__":
    unittest.main()
