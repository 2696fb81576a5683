"""neverhalves/within.py: its section, and what [9] promises of sums that no hand beside the first one bars."""
import itertools
import unittest

from helping import (
    APART, B2, B3, DOUBLE, G2, LONE, MARKOV, THREE, TWO,
    Case, as_sum, multiplied, random_sum, rows_up_to, units, with_marks, worth, some_numbers,
)
from neverhalves.errors import InvalidBoard, InvalidRow, InvalidSum
from neverhalves.hands import first_hand, hand_by, sum_by
from neverhalves.sums import letter, put
from neverhalves.within import as_product, barring, is_let, read_back, written

HUGE = 10 ** 30
MARKED = with_marks(TWO, (1, -2), (0, 3))
ROWS = [(LONE, (0,)), (TWO, (0,)), (TWO, (0, 1)), (TWO, (1, 0, 1)), (MARKED, (0, 1)), (units(TWO), (1, 0, 1)),
        (THREE, (0, 1)), (B2, (0, 1)), (units(B2), (1,)), (G2, (1, 0)), (DOUBLE, (0,)), (APART, (0, 1)),
        (with_marks(LONE, (2,), (-3,)), (0,))]


class Written(Case):
    def test_plain_ones(self):
        self.assertEqual(self.both_ways(written, board=TWO, row=(0,), told=letter(0, 2)), (((-1, 0), 1), ((-1, 1), 1)))
        self.assertEqual(written(TWO, (0,), letter(1, 2)), letter(1, 2))
        self.assertEqual(written(TWO, (), random_sum(1, 5, 2, 3, 3)), random_sum(1, 5, 2, 3, 3))
        self.assertEqual(written(TWO, (0,), sum_by(TWO, (0,))), letter(0, 2))
        self.assertEqual(written(LONE, (0,), (((1,), 1),)), (((-1,), 2),))
        self.assertEqual(written(LONE, (0,), (((-1,), 2),)), (((1,), 1),))
        self.assertIsNone(self.both_ways(written, board=LONE, row=(0,), told=(((-1,), 1),)))

    def test_of_nought(self):
        for board, row in ROWS:
            self.assertEqual(written(board, row, ()), ())
            self.assertEqual(read_back(board, row, ()), ())
            self.assertIs(is_let(board, ()), True)
            self.assertIsNone(barring(board, ()))
            self.assertIsNone(as_product(board, row, ()))

    def test_sums_of_the_hand_are_its_letters(self):
        for board, row in ROWS:
            for end in range(len(row) + 1):
                sums, behind = hand_by(board, row[:end])
                for place, told in enumerate(sums):
                    self.assertEqual(written(board, row[:end], told), letter(place, len(board)))
                    self.assertEqual(read_back(board, row[:end], letter(place, len(board))), told)
                for mark in range(len(sums), len(board)):
                    self.assertEqual(written(board, row[:end], letter(mark, len(board))), letter(mark, len(board)))

    def test_there_and_back(self):
        for board, row in ROWS:
            for seed in range(8):
                many = len(board)
                chance = random_sum(seed, 1 + seed % 3, many, 1, 2)
                told = as_sum({tuple(abs(power) if at < len(board[0]) else power for at, power in enumerate(powers)): c
                               for powers, c in chance})
                there = written(board, row, told)
                self.assertEqual(read_back(board, row, there), told)
                back = read_back(board, row, told)
                self.assertEqual(written(board, row, back), told)

    def test_the_hands_sums_put_for_the_letters(self):
        for board, row in ROWS:
            sums, _ = hand_by(board, row)
            others = list(sums) + [letter(at, len(board)) for at in range(len(sums), len(board))]
            numbers = some_numbers(len(board), 3)
            for seed in range(6):
                told = random_sum(seed, 1 + seed % 4, len(board), 2, 2)
                there = written(board, row, told)
                if there is not None:
                    self.assertEqual(put(there, others), told)
                    self.assertEqual(worth(there, [worth(other, numbers) for other in others]), worth(told, numbers))
                self.assertEqual(read_back(board, row, told), put(told, others))

    def test_where_there_is_none(self):
        self.assertIsNone(written(TWO, (0,), (((-1, 0), 1),)))
        self.assertIsNone(written(TWO, (0, 1), (((0, -1), 1),)))
        self.assertEqual(written(TWO, (0,), (((0, -1), 1),)), (((0, -1), 1),))
        self.assertIsNone(self.both_ways(read_back, board=TWO, row=(0,), told=(((-1, 0), 1),)))
        self.assertEqual(read_back(TWO, (0,), (((-1, 0), 1), ((-1, 1), 1))), letter(0, 2))


class Let(Case):
    def test_is_let_and_barring(self):
        self.assertIs(self.both_ways(is_let, board=TWO, told=letter(0, 2)), True)
        self.assertIsNone(self.both_ways(barring, board=TWO, told=letter(0, 2)))
        self.assertIs(self.both_ways(is_let, board=TWO, told=(((-1, 0), 1),)), False)
        self.assertEqual(self.both_ways(barring, board=TWO, told=(((-1, 0), 1),)), 0)
        self.assertEqual(barring(TWO, (((0, -1), 1),)), 1)
        self.assertEqual(barring(TWO, (((-1, -1), 1),)), 0)
        self.assertEqual(barring(THREE, (((0, -2, 0), 1), ((0, 0, -1), 1))), 1)
        self.assertIs(is_let(TWO, (((-1, 0), 1), ((-1, 1), 1))), True)
        self.assertIs(is_let(LONE, (((-1,), 2),)), True)
        self.assertIs(is_let(LONE, (((-1,), 3),)), False)

    def test_marks_to_powers_below_nought(self):
        self.assertIs(is_let(MARKED, (((1, 0, -3, -1), 1),)), True)
        self.assertIsNone(barring(MARKED, (((0, 2, -1, 3), -1), ((1, 0, 0, -2), 4))))
        self.assertEqual(barring(MARKED, (((0, -1, -1, 0), 1),)), 1)
        for board, row in ROWS:
            for mark in range(len(board[0]), len(board)):
                powers = tuple(-2 if at == mark else 1 for at in range(len(board)))
                self.assertIs(is_let(board, ((powers, 1),)), True)
                self.assertIsNotNone(written(board, row, ((powers, 1),)))

    def test_one_place_at_a_time(self):
        for board in (TWO, MARKED, THREE, B3, units(G2), MARKOV):
            for seed in range(12):
                told = random_sum(seed, 1 + seed % 2, len(board), 1, 1)
                none = [place for place in range(len(board[0])) if written(board, (place,), told) is None]
                self.assertEqual(barring(board, told), none[0] if none else None)
                self.assertIs(is_let(board, told), not none)

    def test_sums_of_hands_are_let(self):
        for board in (TWO, MARKED, THREE, B3, G2):
            for row in rows_up_to(len(board[0]), 3):
                for told in hand_by(board, row)[0]:
                    self.assertIs(is_let(board, told), True)

    def test_what_no_hand_bars(self):
        # The columns of these boards add up to 0 only with all multiples 0.
        for board in (TWO, units(THREE), B2):
            tolds = [told for row in rows_up_to(len(board[0]), 2) for told in hand_by(board, row)[0]]
            for one, other in itertools.product(tolds[:6], tolds[-6:]):
                told = multiplied(one, other)
                self.assertIs(is_let(board, told), True)
                for row in rows_up_to(len(board[0]), 3):
                    self.assertIsNotNone(written(board, row, told))


class Products(Case):
    def test_as_product(self):
        self.assertEqual(self.both_ways(as_product, board=TWO, row=(0,), told=sum_by(TWO, (0,))), (1, 0))
        self.assertIsNone(self.both_ways(as_product, board=TWO, row=(0,), told=letter(0, 2)))
        self.assertEqual(as_product(TWO, (0,), (((0, -3), 1),)), (0, -3))
        self.assertIsNone(as_product(TWO, (0,), (((0, -3), 2),)))
        self.assertIsNone(as_product(TWO, (0,), (((0, -3), -1),)))
        self.assertIsNone(as_product(TWO, (0,), (((-1, 0), 1),)))
        self.assertEqual(as_product(TWO, (), (((4, -2), 1),)), (4, -2))
        self.assertIsNone(as_product(TWO, (), (((4, -2), 1), ((5, 0), 1))))
        self.assertEqual(as_product(TWO, (), (((0, 0), 1),)), (0, 0))

    def test_products_of_the_sums_of_a_hand(self):
        for board, row in ROWS:
            sums, _ = hand_by(board, row)
            told = (((0,) * len(board), 1),)
            for one in sums:
                told = multiplied(told, multiplied(one, one))
            self.assertEqual(as_product(board, row, told), (2,) * len(sums) + (0,) * (len(board) - len(sums)))


class Errors(Case):
    def test_boards(self):
        for wrong in [(), ((),), ((1,),), ((0, 1), (1, 0)), ((0, 2), (0, 0))]:
            bad = (((0,), 0),)
            for function in (written, as_product, read_back):
                self.fails(InvalidBoard, wrong, function, wrong, (-1,), bad)
                self.fails(InvalidBoard, wrong, function, board=wrong, row=(0,), told=letter(0, 2))
            for function in (is_let, barring):
                self.fails(InvalidBoard, wrong, function, wrong, bad)
                self.fails(InvalidBoard, wrong, function, board=wrong, told=letter(0, 2))

    def test_rows(self):
        for row in [(-1,), (2,), (0, 1, HUGE)]:
            for function in (written, as_product, read_back):
                self.fails(InvalidRow, row, function, TWO, row, letter(0, 2))
                self.fails(InvalidRow, row, function, MARKED, row, (((0,), 0),))
                self.fails(InvalidRow, row, function, board=TWO, row=row, told=())

    def test_sums(self):
        for wrong in [(((0, 0), 0),), (((1, 0), 1), ((0, 1), 1)), (((0, 1), 1), ((0, 1), 1)), letter(0, 1),
                      letter(0, 3), letter(2, 4), (((), 1),), (((0, 1), 1), ((1,), 1))]:
            for function in (written, as_product, read_back):
                self.fails(InvalidSum, wrong, function, TWO, (0,), wrong)
                self.fails(InvalidSum, wrong, function, board=DOUBLE, row=(), told=wrong)
            for function in (is_let, barring):
                self.fails(InvalidSum, wrong, function, TWO, wrong)
                self.fails(InvalidSum, wrong, function, board=TWO, told=wrong)
        for wrong in (letter(0, 2), letter(0, 3), letter(0, 5)):
            self.fails(InvalidSum, wrong, written, MARKED, (), wrong)
            self.fails(InvalidSum, wrong, is_let, MARKED, wrong)
        self.assertEqual(first_hand(MARKED)[0][0], letter(0, 4))


if __name__ == "__main__":
    unittest.main()
