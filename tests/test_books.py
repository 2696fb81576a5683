"""neverhalves/books.py: its section."""
import itertools
import unittest

from helping import (
    A4, APART, B2, B3, D4, DOUBLE, G2, LONE, MARKOV, SQUARE, THREE, TWO,
    Case, blocks, random_row, rows_up_to, units, with_marks,
)
from neverhalves.books import (
    back, behind, is_nothing, is_turn, lead_alike, least_row, order_behind, rows_back,
)
from neverhalves.ends import all_rows
from neverhalves.errors import InvalidBoard, InvalidNumber, InvalidRow
from neverhalves.hands import first_hand, hand_by, same_hands, shortened

HUGE = 10 ** 30
MARKED = with_marks(THREE, (1, -2, 0), (0, 3, 1))
ONE_MARK = with_marks(TWO, (1, -2))
BOARDS = [LONE, TWO, APART, B2, G2, THREE, B3, MARKED, units(TWO), blocks(TWO, LONE), with_marks(LONE, (5,), (-9,)),
          DOUBLE, MARKOV, units(DOUBLE), with_marks(DOUBLE, (1, 0))]
WRONG_BOARDS = [(), ((),), ((1,),), ((0, 1), (1, 0)), ((0, 2), (0, 0)), ((0, 1), (-1, 0), (1,))]


def is_plain(row):
    """Whether no place stands twice side by side."""
    return all(one != other for one, other in zip(row, row[1:]))


def alike_plainly(board, one, other):
    """By the hands themselves."""
    return same_hands(hand_by(board, one), hand_by(board, other)) is not None


class Rows(Case):
    def test_behind(self):
        self.assertEqual(self.both_ways(behind, row=(0, 1), other=(1,)), (0, 1, 1))
        self.assertEqual(behind((), ()), ())
        self.assertEqual(behind((), (3,)), (3,))
        self.assertEqual(behind((-HUGE, 7), ()), (-HUGE, 7))
        self.assertEqual(behind((-1, HUGE), (0, -5)), (-1, HUGE, 0, -5))

    def test_back(self):
        self.assertEqual(self.both_ways(back, row=(0, 1, 2)), (2, 1, 0))
        self.assertEqual(back(()), ())
        self.assertEqual(back((-1, HUGE, -1, 4)), (4, -1, HUGE, -1))
        for row in rows_up_to(3, 4):
            self.assertEqual(back(back(row)), row)
            self.assertEqual(shortened(behind(row, back(row))), ())
            self.assertIs(is_nothing(THREE, behind(row, back(row))), True)


class Alike(Case):
    def test_small_ones(self):
        self.assertIs(self.both_ways(lead_alike, board=TWO, one=(0, 1, 0), other=(1, 0)), True)
        self.assertIs(self.both_ways(lead_alike, board=TWO, one=(0,), other=(1,)), False)
        self.assertIs(self.both_ways(is_turn, board=TWO, row=(0, 1)), False)
        self.assertIs(self.both_ways(is_nothing, board=TWO, row=()), True)
        # Five swaps lead back but for order, ten each sum in its place.
        self.assertEqual([is_turn(TWO, (0, 1, 0, 1, 0)), is_nothing(TWO, (0, 1, 0, 1, 0))], [True, False])
        self.assertEqual([is_turn(TWO, (0, 1) * 5), is_nothing(TWO, (0, 1) * 5)], [True, True])
        self.assertEqual([is_turn(TWO, (1, 0, 1, 0, 1)), is_nothing(TWO, (1, 0, 1, 0, 1))], [True, False])
        self.assertEqual(order_behind(TWO, (0, 1, 0, 1, 0)), (1, 0))

    def test_by_the_hands(self):
        for board in BOARDS:
            many = len(board[0])
            rows = [row for row in rows_up_to(many, 6 if many == 2 else 3) if is_plain(row)]
            if board in (MARKOV, DOUBLE, units(DOUBLE)):
                rows = [row for row in rows if len(row) < 4]
            start = first_hand(board)
            for row in rows + [random_row(seed, many, 5) for seed in range(3) if board != MARKOV] + [(0, 0), (0, 0, 0)]:
                hand = hand_by(board, row)
                self.assertIs(is_nothing(board, row), hand == start)
                self.assertIs(is_turn(board, row), same_hands(hand, start) is not None)
                self.assertEqual(order_behind(board, row), same_hands(hand, start))
            for one, other in list(zip(rows, rows[1:] + rows[:1])) + list(zip(rows, rows[3:])):
                wanted = alike_plainly(board, one, other)
                self.assertIs(lead_alike(board, one, other), wanted)
                self.assertIs(lead_alike(board, other, one), wanted)

    def test_order_behind(self):
        self.assertEqual(self.both_ways(order_behind, board=TWO, row=()), (0, 1))
        self.assertIsNone(self.both_ways(order_behind, board=MARKED, row=(0,)))
        for board in (TWO, THREE, ONE_MARK, D4):
            many = len(board[0])
            for one in range(many):
                for other in range(many):
                    if one != other and board[one][other] * board[other][one] == -1:
                        row = (one, other, one, other, one)
                        order = order_behind(board, row)
                        self.assertEqual(order, same_hands(hand_by(board, row), first_hand(board)))
                        self.assertEqual([order[one], order[other]], [other, one])
        self.assertIsNone(order_behind(DOUBLE, (0, 1, 0, 1)))


class Least(Case):
    def least_plainly(self, board, row):
        """The first of all rows, tried one by one."""
        for told in rows_up_to(len(board[0]), len(row)):
            if alike_plainly(board, told, row):
                return told
        return None

    def test_small_ones(self):
        self.assertEqual(self.both_ways(least_row, board=TWO, row=(0, 1, 0)), (1, 0))
        self.assertEqual(least_row(TWO, ()), ())
        self.assertEqual(least_row(TWO, (0, 1, 0, 1, 0)), ())
        self.assertEqual(least_row(DOUBLE, (0, 1, 0, 1, 0, 1)), (0, 1, 0, 1, 0, 1))
        self.assertEqual(least_row(LONE, (0, 0, 0)), (0,))
        self.assertEqual(least_row(APART, (1, 0)), (0, 1))

    def test_by_the_hands(self):
        for board in (TWO, APART, B2, G2, THREE, ONE_MARK, with_marks(DOUBLE, (1, 0)), blocks(TWO, LONE)):
            for seed in range(4):
                row = random_row(seed, len(board[0]), 2 + seed)
                self.assertEqual(least_row(board, row), self.least_plainly(board, row), (board, row))

    def test_of_finitely_many(self):
        for board in (TWO, B2, G2, THREE, MARKED, B3, A4, D4, blocks(TWO, B2)):
            firsts = all_rows(board)
            for row in firsts:
                if len(row) <= 6:
                    self.assertEqual(least_row(board, row), row)
            for seed in range(12):
                row = random_row(seed, len(board[0]), 6)
                wanted = [told for told in firsts if lead_alike(board, told, row)]
                self.assertEqual([least_row(board, row)], wanted)

    def test_of_endless_ones(self):
        for board in (MARKOV, SQUARE, units(SQUARE)):
            many = len(board[0])
            for seed in range(4):
                row = random_row(seed, many, 4)
                wanted = next(told for told in rows_up_to(many, 4) if lead_alike(board, told, row))
                self.assertEqual(least_row(board, row), wanted)


class Back(Case):
    def test_small_ones(self):
        self.assertEqual(self.both_ways(rows_back, board=TWO, length=5), [(0, 1, 0, 1, 0), (1, 0, 1, 0, 1)])
        self.assertEqual(rows_back(TWO, 0), [()])
        self.assertEqual([rows_back(TWO, length) for length in (1, 2, 3, 4, 6)], [[]] * 5)
        self.assertEqual(rows_back(LONE, 0), [()])
        self.assertEqual([rows_back(LONE, length) for length in (1, 2, 6)], [[]] * 3)
        self.assertEqual(rows_back(APART, 4), [(0, 1, 0, 1), (1, 0, 1, 0)])
        self.assertEqual(rows_back(B2, 6), [(0, 1) * 3, (1, 0) * 3])
        self.assertEqual(rows_back(DOUBLE, 6), [])

    def test_all_rows_tried(self):
        for board in (TWO, APART, B2, G2, DOUBLE, THREE, B3, MARKED, MARKOV, blocks(TWO, LONE), units(APART)):
            many = len(board[0])
            for length in range(7):
                rows = [row for row in itertools.product(range(many), repeat=length) if is_plain(row)]
                wanted = [row for row in rows if is_turn(board, row)]
                self.assertEqual(rows_back(board, length), wanted)

    def test_four_places(self):
        for board in (A4, D4, SQUARE):
            for length in (4, 5, 6):
                rows = [row for row in itertools.product(range(4), repeat=length) if is_plain(row)]
                self.assertEqual(rows_back(board, length), [row for row in rows if is_turn(board, row)])

    def test_by_the_hands(self):
        start = first_hand(THREE)
        for length in range(6):
            rows = [row for row in itertools.product(range(3), repeat=length) if is_plain(row)]
            wanted = [row for row in rows if same_hands(hand_by(THREE, row), start) is not None]
            self.assertEqual(rows_back(THREE, length), wanted)


class Errors(Case):
    def test_boards(self):
        for wrong in WRONG_BOARDS:
            self.fails(InvalidBoard, wrong, is_nothing, wrong, (-1,))
            self.fails(InvalidBoard, wrong, is_turn, wrong, (-1,))
            self.fails(InvalidBoard, wrong, lead_alike, wrong, (-1,), (-1,))
            self.fails(InvalidBoard, wrong, least_row, wrong, (-1,))
            self.fails(InvalidBoard, wrong, rows_back, wrong, -1)
            self.fails(InvalidBoard, wrong, order_behind, wrong, (-1,))
            self.fails(InvalidBoard, wrong, is_nothing, board=wrong, row=())
            self.fails(InvalidBoard, wrong, lead_alike, board=wrong, one=(), other=())
            self.fails(InvalidBoard, wrong, rows_back, board=wrong, length=0)

    def test_rows(self):
        for board in (TWO, ONE_MARK, DOUBLE):
            for wrong in [(-1,), (2,), (0, 1, 2), (0, HUGE), (-HUGE, 0)]:
                self.fails(InvalidRow, wrong, is_nothing, board, wrong)
                self.fails(InvalidRow, wrong, is_turn, board, wrong)
                self.fails(InvalidRow, wrong, least_row, board, wrong)
                self.fails(InvalidRow, wrong, order_behind, board, wrong)
                self.fails(InvalidRow, wrong, lead_alike, board, wrong, (0,))
                self.fails(InvalidRow, wrong, lead_alike, board, (0,), wrong)
                self.fails(InvalidRow, wrong, lead_alike, board, wrong, (7, 7))
                self.fails(InvalidRow, wrong, lead_alike, board=board, one=wrong, other=(9,))
                self.fails(InvalidRow, wrong, least_row, board=board, row=wrong)

    def test_lengths(self):
        for board in (TWO, DOUBLE, LONE):
            for wrong in (-1, -2, -HUGE):
                self.fails(InvalidNumber, wrong, rows_back, board, wrong)
                self.fails(InvalidNumber, wrong, rows_back, board=board, length=wrong)


if __name__ == "__main__":
    unittest.main()
