"""neverhalves/boards.py: points [4], [5] and its section."""
import itertools
import unittest

from helping import (
    APART, A4, B2, B4, C3, D4, DOUBLE, F4, FINITE, G2, LONE, MARKOV, SQUARE, THREE, TWO,
    Case, blocks, is_board_plainly, random_row, swap_plainly, units, with_marks,
)
from neverhalves.boards import (
    beside, first_renamed, is_board, marked, negative, part, pieces, renamed, size, swapped,
    swapped_by, table, turned, unit_board, weights, without_mark,
)

BOARDS = [LONE, TWO, THREE, APART, A4, B2, B4, C3, D4, DOUBLE, F4, G2, MARKOV, SQUARE]
MARKED = with_marks(F4, (4, -4, 0, 1), (0, 0, 0, 0), (-2, 3, -3, 2))
WILD = with_marks(((0, 4, -2), (-2, 0, 1), (4, -4, 0)), (1, -3, 2), (0, 4, -4))
EIGHT = with_marks(blocks(F4, D4), *[tuple((at * 5 + far * 3) % 9 - 4 for far in range(8)) for at in range(10)])
ALL = BOARDS + [units(board) for board in BOARDS] + [MARKED, WILD, EIGHT]


class IsBoard(Case):
    def test_right_ones(self):
        for board in ALL:
            self.assertIs(is_board(board), True)
        self.assertIs(is_board(((0,), (7,), (-10 ** 40,))), True)
        self.assertIs(is_board(((0, 10 ** 30), (-3 * 10 ** 29, 0))), True)
        self.assertIs(self.both_ways(is_board, told=TWO), True)

    def test_forms_that_are_none(self):
        for told in [(), ((),), ((), ()), ((0, 0),), ((0, 1), (-1,)), ((0,), (0, 0)), ((0, 1), (-1, 0), (1,)),
                     ((0, 1), (-1, 0), (1, 0, 0)), ((0, 1, 0), (-1, 0, 1)), ((0, 1), (-1, 0), ()), ((0,), ())]:
            self.assertIs(is_board(told), False)

    def test_diagonals(self):
        self.assertIs(is_board(((1,),)), False)
        self.assertIs(is_board(((0, 1), (-1, 1))), False)
        self.assertIs(is_board(((-1, 0), (0, 0))), False)

    def test_signs(self):
        for told in [((0, 1), (1, 0)), ((0, -1), (-2, 0)), ((0, 1), (0, 0)), ((0, 0), (1, 0)), ((0, 0), (-1, 0)),
                     ((0, 1, 0), (-1, 0, 0), (0, 1, 0)), ((0, 1, 0), (-1, 0, 1), (0, 1, 0))]:
            self.assertIs(is_board(told), False)

    def test_rings_of_three(self):
        self.assertIs(is_board(((0, 1, -1), (-1, 0, 1), (1, -2, 0))), False)
        self.assertIs(is_board(((0, 2, -1), (-1, 0, 1), (1, -1, 0))), False)
        self.assertIs(is_board(((0, 2, -1), (-1, 0, 1), (1, -2, 0))), True)

    def test_rings_of_four(self):
        self.assertIs(is_board(((0, 2, 0, -1), (-1, 0, 1, 0), (0, -1, 0, 1), (1, 0, -1, 0))), False)
        self.assertIs(is_board(((0, 2, 0, -2), (-1, 0, 1, 0), (0, -1, 0, 1), (1, 0, -1, 0))), True)
        self.assertIs(is_board(((0, 0, 1, 1), (0, 0, 1, 1), (-1, -1, 0, 0), (-1, -2, 0, 0))), False)
        self.assertIs(is_board(((0, 0, 1, 1), (0, 0, 1, 1), (-1, -1, 0, 0), (-2, -2, 0, 0))), True)

    def test_marks_have_any_entries(self):
        self.assertIs(is_board(((0, 1), (-1, 0), (5, 5), (-5, -5), (0, 10 ** 20))), True)

    def test_all_small_ones(self):
        for entries in itertools.product(range(-2, 3), repeat=4):
            rows = (entries[:2], entries[2:])
            self.assertIs(is_board(rows), is_board_plainly(rows, 4))
        for entries in itertools.product((-2, -1, 0, 1), repeat=6):
            a, b, c, d, e, f = entries
            rows = ((0, a, b), (c, 0, d), (e, f, 0))
            self.assertIs(is_board(rows), is_board_plainly(rows, 4))

    def test_what_swaps_make(self):
        for seed, board in enumerate([MARKOV, WILD, ((0, 4, -4, 1), (-4, 0, 2, -3), (4, -2, 0, 1), (-1, 3, -1, 0))]):
            for length in range(1, 13):
                row = random_row(seed, len(board[0]), length)
                self.assertIs(is_board(swapped_by(board, row)), True)


class Weights(Case):
    def test_least_within_each_piece(self):
        self.assertEqual(weights(((0, 2), (-1, 0))), (1, 2))
        self.assertEqual(weights(((0, 1), (-4, 0))), (4, 1))
        self.assertEqual(weights(((0, 2), (-2, 0))), (1, 1))
        self.assertEqual(weights(((0, 4), (-2, 0))), (1, 2))
        self.assertEqual(weights(((0, 3), (-2, 0))), (2, 3))
        self.assertEqual(weights(((0, 2, 0), (-3, 0, 4), (0, -3, 0))), (9, 6, 8))
        self.assertEqual(weights(B4), (2, 2, 2, 1))
        self.assertEqual(weights(((0, 2, -1), (-1, 0, 1), (1, -2, 0))), (1, 2, 1))

    def test_pieces_and_lone_places(self):
        self.assertEqual(weights(LONE), (1,))
        self.assertEqual(weights(APART), (1, 1))
        self.assertEqual(weights(blocks(B2, LONE, G2)), (1, 2, 1, 3, 1))
        self.assertEqual(weights(((0, 0, 0, 2), (0, 0, 3, 0), (0, -1, 0, 0), (-4, 0, 0, 0))), (2, 1, 3, 1))

    def test_they_go_round(self):
        for board in ALL:
            told = weights(board)
            self.assertIs(type(told), tuple)
            many = len(board[0])
            for i, j in itertools.product(range(many), repeat=2):
                self.assertGreaterEqual(told[i], 1)
                self.assertEqual(told[i] * board[i][j], -told[j] * board[j][i])
            for place in range(many):
                self.assertEqual(weights(swapped(board, place)), told)
        self.assertEqual(self.both_ways(weights, board=MARKED), (2, 2, 1, 1))


class Swaps(Case):
    def test_by_the_rule(self):
        for board in ALL:
            for place in range(len(board[0])):
                told = self.both_ways(swapped, board=board, place=place)
                self.assertEqual(told, swap_plainly(board, place))
                self.assertEqual(swapped(told, place), board)

    def test_all_boards_of_two_and_marks(self):
        for a, b, c, d in itertools.product(range(1, 5), range(-4, 0), range(-4, 5), range(-4, 5)):
            for board in (((0, a), (b, 0), (c, d)), ((0, b), (a, 0), (c, d))):
                for place in (0, 1):
                    self.assertEqual(swapped(board, place), swap_plainly(board, place))

    def test_rows(self):
        for seed, board in enumerate(ALL):
            row = random_row(seed, len(board[0]), 12)
            wanted = board
            for place in row:
                wanted = swap_plainly(wanted, place)
            self.assertEqual(self.both_ways(swapped_by, board=board, row=row), wanted)
            self.assertEqual(swapped_by(board, row + row[::-1]), board)
            self.assertEqual(swapped_by(wanted, row[::-1]), board)
            self.assertEqual(swapped_by(board, ()), board)
            self.assertEqual(swapped_by(board, (row[0], row[0])), board)


class Parts(Case):
    def test_size(self):
        self.assertEqual(self.both_ways(size, board=MARKED), (4, 3))
        self.assertEqual(size(LONE), (1, 0))
        self.assertEqual(size(EIGHT), (8, 10))
        self.assertEqual(size(units(THREE)), (3, 3))

    def test_pieces(self):
        self.assertEqual(self.both_ways(pieces, board=APART), [(0,), (1,)])
        self.assertEqual(pieces(LONE), [(0,)])
        self.assertEqual(pieces(MARKED), [(0, 1, 2, 3)])
        self.assertEqual(pieces(EIGHT), [(0, 1, 2, 3), (4, 5, 6, 7)])
        self.assertEqual(pieces(((0, 0, 0, 2), (0, 0, 3, 0), (0, -1, 0, 0), (-4, 0, 0, 0))), [(0, 3), (1, 2)])
        self.assertEqual(pieces(((0, 0, 1), (0, 0, 0), (-1, 0, 0), (1, 1, 1))), [(0, 2), (1,)])
        self.assertEqual(pieces(((0, 0, 0, 1), (0, 0, -1, 0), (0, 1, 0, 1), (-1, 0, -1, 0))), [(0, 1, 2, 3)])

    def test_table_and_unit_board(self):
        for board in ALL:
            many = len(board[0])
            self.assertEqual(table(board), board[:many])
            self.assertEqual(unit_board(board), units(board))
        self.assertEqual(self.both_ways(table, board=with_marks(TWO, (1, 2))), TWO)
        self.assertEqual(self.both_ways(unit_board, board=with_marks(LONE, (5,), (6,))), ((0,), (1,)))

    def test_marked(self):
        self.assertEqual(self.both_ways(marked, board=TWO, rows=[(1, 2), (-3, 0)]), with_marks(TWO, (1, 2), (-3, 0)))
        self.assertEqual(marked(with_marks(TWO, (9, 9)), [(1, 2)]), with_marks(TWO, (9, 9), (1, 2)))
        self.assertEqual(marked(MARKED, []), MARKED)

    def test_without_mark(self):
        board = with_marks(TWO, (1, 2), (3, 4), (5, 6))
        self.assertEqual(self.both_ways(without_mark, board=board, at=0), with_marks(TWO, (3, 4), (5, 6)))
        self.assertEqual(without_mark(board, 1), with_marks(TWO, (1, 2), (5, 6)))
        self.assertEqual(without_mark(board, 2), with_marks(TWO, (1, 2), (3, 4)))
        self.assertEqual(without_mark(with_marks(LONE, (1,)), 0), LONE)

    def test_negative_and_turned(self):
        self.assertEqual(self.both_ways(negative, board=with_marks(B2, (0, -3))), ((0, -2), (1, 0), (0, 3)))
        self.assertEqual(self.both_ways(turned, board=with_marks(B2, (0, -3))), ((0, 1), (-2, 0)))
        for board in ALL:
            many = len(board[0])
            self.assertEqual(negative(negative(board)), board)
            self.assertEqual(turned(turned(board)), table(board))
            told = turned(board)
            self.assertIs(is_board(told), True)
            for i, j in itertools.product(range(many), repeat=2):
                self.assertEqual(told[i][j], -board[j][i])

    def test_part(self):
        board = with_marks(((0, 1, 2), (-1, 0, 3), (-2, -3, 0)), (4, 5, 6), (7, 8, 9))
        self.assertEqual(self.both_ways(part, board=board, places=[0, 2]), ((0, 2), (-2, 0), (4, 6), (7, 9)))
        self.assertEqual(part(board, [1]), ((0,), (5,), (8,)))
        self.assertEqual(part(board, [0, 1, 2]), board)

    def test_beside(self):
        self.assertEqual(self.both_ways(beside, one=with_marks(TWO, (5, 6)), other=with_marks(LONE, (7,), (8,))),
                         ((0, 1, 0), (-1, 0, 0), (0, 0, 0), (5, 6, 0), (0, 0, 7), (0, 0, 8)))
        self.assertEqual(beside(F4, D4), blocks(F4, D4))
        self.assertEqual(beside(LONE, units(LONE)), ((0, 0), (0, 0), (0, 1)))
        big = beside(EIGHT, EIGHT)
        self.assertEqual(size(big), (16, 20))
        self.assertEqual(swapped(big, 8)[8:16], tuple((0,) * 8 + row for row in swapped(EIGHT, 0)[:8]))
        self.assertEqual(len(pieces(big)), 4)
        self.assertEqual(weights(big), weights(EIGHT) * 2)
        self.assertEqual(part(big, list(range(8)))[:18], EIGHT)


class Renamed(Case):
    def test_renamed(self):
        board = with_marks(((0, 1, 2), (-1, 0, 3), (-2, -3, 0)), (4, 5, 6))
        self.assertEqual(self.both_ways(renamed, board=board, order=(2, 0, 1)),
                         ((0, -2, -3), (2, 0, 1), (3, -1, 0), (6, 4, 5)))
        self.assertEqual(renamed(board, (0, 1, 2)), board)
        for order in itertools.permutations(range(4)):
            told = renamed(MARKED, order)
            for i in range(4):
                for j in range(4):
                    self.assertEqual(told[i][j], MARKED[order[i]][order[j]])
                for mark in (4, 5, 6):
                    self.assertEqual(told[mark][i], MARKED[mark][order[i]])
            for place in range(4):
                self.assertEqual(swapped(told, place), renamed(swapped(MARKED, order[place]), order))

    def test_first_renamed(self):
        self.assertEqual(self.both_ways(first_renamed, board=TWO), ((0, -1), (1, 0)))
        self.assertEqual(first_renamed(((0, 0), (0, 0), (2, 1))), ((0, 0), (0, 0), (1, 2)))
        self.assertEqual(first_renamed(LONE), LONE)
        for board in [told for told in ALL if len(told[0]) <= 4] + [blocks(THREE, C3), units(blocks(TWO, THREE))]:
            orders = list(itertools.permutations(range(len(board[0]))))
            least = min(renamed(board, order) for order in orders)
            self.assertEqual(first_renamed(board), least)
            for order in orders[:7]:
                self.assertEqual(first_renamed(renamed(board, order)), least)

    def test_types_of_boards_that_are_returned(self):
        for board, _, _, _ in FINITE:
            for told in (negative(board), turned(board), first_renamed(board), unit_board(board)):
                self.assertIs(is_board(told), True)
                for row in told:
                    self.assertIs(type(row), tuple)
                    self.assertEqual({type(entry) for entry in row}, {int})


if __name__ == "__main__":
    unittest.main()
