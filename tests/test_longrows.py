"""neverhalves/longrows.py: its section, and what [9] promises of values."""
import itertools
import random
import unittest
from math import gcd

from helping import (
    A4, APART, B2, B3, D4, DOUBLE, F4, FINITE, G2, LONE, MARKOV, SQUARE, THREE, TWO,
    Case, numbers_behind, random_row, rows_up_to, swap_plainly, units, with_marks, worth,
)
from neverhalves.boards import renamed, swapped_by
from neverhalves.errors import InvalidBoard, InvalidNumber, InvalidNumbers, InvalidRow
from neverhalves.hands import first_hand, hand_by
from neverhalves.longrows import comes_round, long_row, long_values, order_back, values

HUGE = 10 ** 30
SOMOS = ((0, 1, -2, 1), (-1, 0, 3, -2), (2, -3, 0, 1), (-1, 2, -1, 0))
MARKED = with_marks(TWO, (1, -2), (0, 3))
MATCHED = with_marks(APART, (1, 1), (2, 2))
WRONG_BOARDS = [(), ((),), ((1,),), ((0, 1), (1, 0)), ((0, 2), (0, 0))]


def orders(board, row):
    """All orders that make the board of the one behind a row."""
    then = board
    for place in row:
        then = swap_plainly(then, place)
    return [order for order in itertools.permutations(range(len(board[0]))) if renamed(then, order) == board]


def turns_plainly(row, order, times):
    """The long row, place by place by as many steps of the order as turns are done."""
    out = []
    for turn in range(times):
        for place in row:
            for _ in range(turn):
                place = order[place]
            out.append(place)
    return tuple(out)


def rows_back(board, most):
    """All rows of up to so many places behind which the board comes back."""
    return [row for row in rows_up_to(len(board[0]), most) if row and orders(board, row)]


def made_plainly(board, row):
    """The values at ones that the swaps of a row make."""
    out = []
    for end in range(1, len(row) + 1):
        out.append(numbers_behind(board, row[:end], [1] * len(board))[row[end - 1]])
    return out


class Values(Case):
    def test_small_ones(self):
        self.assertEqual(self.both_ways(values, board=TWO, row=(0, 1), numbers=[1, 2]), [(3, 1), (2, 1)])
        self.assertEqual(self.both_ways(values, board=TWO, row=(), numbers=[4, 6]), [(4, 1), (6, 1)])
        self.assertEqual(values(TWO, (0,), [4, 6]), [(7, 4), (6, 1)])
        self.assertEqual(values(TWO, (0,), [6, 3]), [(2, 3), (3, 1)])
        self.assertEqual(values(LONE, (0,), [6]), [(1, 3)])
        self.assertEqual(values(LONE, (0, 0, 0), [1]), [(2, 1)])
        self.assertEqual(values(with_marks(LONE, (2,), (-3,)), (0,), [5, 3, 2]), [(17, 5)])

    def test_by_fractions(self):
        chance = random.Random(1)
        for board in [told for told, _, _, _ in FINITE] + [APART, MARKED, units(B3), with_marks(F4, (4, -4, 1, 0))]:
            for seed in range(4):
                row = random_row(seed, len(board[0]), 3 * seed)
                numbers = [chance.randint(1, 10 ** (10 * seed + 1)) for _ in board]
                told = values(board, row, numbers)
                wanted = numbers_behind(board, row, numbers)
                self.assertEqual(told, [(number.numerator, number.denominator) for number in wanted])
                for top, bottom in told:
                    self.assertIs(type(top), int)
                    self.assertGreater(bottom, 0)
                    self.assertEqual(gcd(top, bottom), 1)

    def test_by_the_sums(self):
        chance = random.Random(2)
        for board in (THREE, MARKED, units(G2), DOUBLE, MARKOV, with_marks(D4, (1, 2, -1, 0))):
            for seed in range(4):
                row = random_row(seed, len(board[0]), seed + 1)
                numbers = [chance.randint(1, 10 ** 30) for _ in board]
                wanted = [worth(told, numbers) for told in hand_by(board, row)[0]]
                self.assertEqual(values(board, row, numbers), [(one.numerator, one.denominator) for one in wanted])

    def test_integers_at_ones(self):
        for board in (F4, D4, MARKOV, SQUARE, units(MARKED)):
            row = random_row(3, len(board[0]), 8)
            self.assertEqual([bottom for _, bottom in values(board, row, [1] * len(board))], [1] * len(board[0]))

    def test_long_rows(self):
        row = (0, 1) * 500
        self.assertEqual(values(TWO, row + (0, 1) * 5, [7, 9]), values(TWO, row, [7, 9]))
        self.assertEqual(values(TWO, (0, 1) * 5, [7, 9]), [(7, 1), (9, 1)])
        told = values(DOUBLE, (0, 1) * 100, [1, 1])
        first, second = 1, 1
        for _ in range(200):
            first, second = second, (second * second + 1) // first
        self.assertEqual(told, [(first, 1), (second, 1)])
        wide = values(DOUBLE, (0, 1) * 12, [10 ** 40 + 1, 3])
        self.assertEqual(wide, [(one.numerator, one.denominator)
                                for one in numbers_behind(DOUBLE, (0, 1) * 12, [10 ** 40 + 1, 3])])


class OrderBack(Case):
    def test_first_of_all(self):
        self.assertEqual(self.both_ways(order_back, board=TWO, row=(0,)), (1, 0))
        self.assertEqual(self.both_ways(order_back, board=LONE, row=(0,)), (0,))
        self.assertIsNone(self.both_ways(order_back, board=THREE, row=(0,)))
        for board in (LONE, TWO, APART, THREE, B2, B3, D4, SOMOS, MARKOV, MARKED, MATCHED, units(TWO), SQUARE):
            for row in rows_up_to(len(board[0]), 4 if len(board[0]) < 4 else 3):
                if row:
                    found = orders(board, row)
                    self.assertEqual(order_back(board, row), found[0] if found else None)

    def test_several_orders(self):
        many = [orders(D4, row) for row in rows_up_to(4, 3) if row]
        self.assertTrue(any(len(found) > 1 for found in many))
        self.assertEqual(order_back(APART, (0,)), (0, 1))
        self.assertEqual(order_back(D4, (1, 1)), (0, 1, 2, 3))

    def test_marks_go_along(self):
        self.assertEqual(order_back(MATCHED, (0, 1, 1, 0)), (0, 1))
        self.assertIsNone(order_back(MATCHED, (0,)))
        self.assertIsNone(order_back(with_marks(TWO, (1, 1)), (0,)))
        self.assertEqual(order_back(with_marks(TWO, (0, 0)), (0,)), (1, 0))
        five = (0, 1, 0, 1, 0)
        self.assertEqual(order_back(with_marks(TWO, (3, -1)), five), (1, 0))
        self.assertEqual(order_back(units(TWO), five), (1, 0))
        crossed = with_marks(APART, (1, -1), (-1, 1))
        self.assertEqual(order_back(crossed, (0, 1)), (1, 0))


class LongRow(Case):
    def test_turns(self):
        self.assertEqual(self.both_ways(long_row, board=TWO, row=(0,), times=4), (0, 1, 0, 1))
        self.assertEqual(self.both_ways(long_row, board=SOMOS, row=(0,), times=5), (0, 1, 2, 3, 0))
        self.assertEqual(long_row(LONE, (0, 0), 3), (0,) * 6)
        self.assertEqual(long_row(TWO, (0, 1), 1), (0, 1))
        self.assertEqual(len(long_row(SOMOS, (0,), 60)), 60)
        self.assertEqual(len(long_row(SOMOS, (0, 1, 2, 3), 15)), 60)

    def test_plainly(self):
        seen = set()
        for board in (LONE, TWO, APART, THREE, B2, B3, MARKOV, SOMOS, MARKED, MATCHED, SQUARE, A4):
            for row in rows_back(board, 4 if len(board[0]) < 4 else 3):
                order = orders(board, row)[0]
                back = tuple(order.index(place) for place in range(len(order)))
                if back != order:
                    seen.add(len([place for place in order if order[place] != place]))
                for times in (1, 2, 3, 7):
                    told = long_row(board, row, times)
                    self.assertEqual(told, turns_plainly(row, order, times))
                    behind = swapped_by(board, told)
                    for _ in range(times):
                        behind = renamed(behind, order)
                    self.assertEqual(behind, board)
        self.assertEqual(seen, {3, 4})

    def test_each_turn_is_the_row_under_the_new_numbers(self):
        for row in rows_back(SOMOS, 3):
            order = order_back(SOMOS, row)
            board, told = SOMOS, []
            places = tuple(range(4))
            for _ in range(5):
                told.extend(places[place] for place in row)
                board = renamed(swapped_by(board, row), order)
                places = tuple(places[place] for place in order)
                self.assertEqual(board, SOMOS)
            self.assertEqual(long_row(SOMOS, row, 5), tuple(told))


class LongValues(Case):
    def test_known_ones(self):
        self.assertEqual(self.both_ways(long_values, board=TWO, row=(0,), times=7), [2, 3, 2, 1, 1, 2, 3])
        self.assertEqual(self.both_ways(long_values, board=SOMOS, row=(0,), times=9),
                         [2, 3, 7, 23, 59, 314, 1529, 8209, 83313])
        told = long_values(DOUBLE, (0,), 60)
        self.assertEqual(told[:5], [2, 5, 13, 34, 89])
        self.assertEqual(len(told), 60)
        for one, other, further in zip(told, told[1:], told[2:]):
            self.assertEqual(one * further, other * other + 1)

    def test_plainly(self):
        for board in (LONE, TWO, APART, THREE, B2, B3, MARKOV, SOMOS, MARKED, MATCHED, SQUARE, DOUBLE):
            for row in rows_back(board, 3)[:12]:
                for times in (1, 2, 3):
                    told = long_values(board, row, times)
                    self.assertEqual(told, made_plainly(board, turns_plainly(row, orders(board, row)[0], times)))
                    self.assertTrue(all(type(one) is int for one in told))

    def test_marks_count_as_one(self):
        board = with_marks(TWO, (0, 0))
        self.assertEqual(long_values(board, (0,), 7), [2, 3, 2, 1, 1, 2, 3])
        self.assertEqual(long_values(with_marks(APART, (3, -3), (-3, 3)), (0, 1), 2), [2, 2, 1, 1])

    def test_two_thousand_digits(self):
        told = long_values(SOMOS, (0, 1, 2, 3), 15)
        self.assertEqual(len(told), 60)
        self.assertGreater(told[-1], 10 ** 90)
        for at in range(4, 60):
            self.assertEqual(told[at] * told[at - 4], told[at - 1] * told[at - 3] + told[at - 2] * told[at - 2])
        board = ((0, 3), (-3, 0))
        long = long_values(board, (0,), 9)
        for one, other, further in zip(long, long[1:], long[2:]):
            self.assertEqual(one * further, other ** 3 + 1)
        self.assertGreater(long[-1], 10 ** 800)


class ComesRound(Case):
    def test_small_ones(self):
        self.assertEqual(self.both_ways(comes_round, board=TWO, row=(0,), most=40), 10)
        self.assertEqual(comes_round(TWO, (0,), 10), 10)
        self.assertIsNone(self.both_ways(comes_round, board=TWO, row=(0,), most=9))
        self.assertEqual(comes_round(LONE, (0,), 2), 2)
        self.assertIsNone(comes_round(LONE, (0,), 1))
        self.assertEqual(comes_round(LONE, (0, 0), 1), 1)
        self.assertEqual(comes_round(TWO, (0, 1), 20), 5)
        self.assertIsNone(comes_round(DOUBLE, (0,), 40))

    def test_by_the_hands(self):
        tried = 0
        for board in [told for told, _, _, _ in FINITE] + [APART, MATCHED, with_marks(TWO, (0, 0)), units(TWO)]:
            many = len(board[0])
            for row in rows_back(board, 4 if many < 3 else many)[::7]:
                order = orders(board, row)[0]
                most = 40 // len(row)
                wanted = None
                for times in range(1, most + 1):
                    if hand_by(board, turns_plainly(row, order, times)) == first_hand(board):
                        wanted = times
                        break
                tried += 1
                self.assertEqual(comes_round(board, row, most), wanted)
                if wanted is not None and wanted > 1:
                    self.assertIsNone(comes_round(board, row, wanted - 1))
        self.assertGreater(tried, 50)

    def test_all_types(self):
        for board, kind, _, _ in FINITE:
            many = len(board)
            row = tuple(range(many))
            if order_back(board, row) is not None:
                self.assertIsNotNone(comes_round(board, row, 40 // many), kind)


class Errors(Case):
    def test_boards(self):
        for wrong in WRONG_BOARDS:
            self.fails(InvalidBoard, wrong, values, wrong, (-1,), [0])
            self.fails(InvalidBoard, wrong, values, board=wrong, row=(), numbers=[])
            self.fails(InvalidBoard, wrong, order_back, wrong, ())
            self.fails(InvalidBoard, wrong, order_back, board=wrong, row=(9,))
            for function in (long_row, long_values):
                self.fails(InvalidBoard, wrong, function, wrong, (), 0)
                self.fails(InvalidBoard, wrong, function, board=wrong, row=(0,), times=1)
            self.fails(InvalidBoard, wrong, comes_round, wrong, (-1,), 0)
            self.fails(InvalidBoard, wrong, comes_round, board=wrong, row=(0,), most=1)

    def test_rows(self):
        for row in [(-1,), (2,), (0, 1, HUGE), (0, -HUGE), (1, 0, 5)]:
            self.fails(InvalidRow, row, values, TWO, row, [1, 1])
            self.fails(InvalidRow, row, values, TWO, row, [0])
            self.fails(InvalidRow, row, order_back, TWO, row)
            for function in (long_row, long_values, comes_round):
                for times in (1, 0, -HUGE):
                    self.fails(InvalidRow, row, function, TWO, row, times)
            self.fails(InvalidRow, row, comes_round, board=TWO, row=row, most=3)

    def test_no_swap_at_all(self):
        self.fails(InvalidRow, (), order_back, TWO, ())
        self.fails(InvalidRow, (), order_back, board=MARKED, row=())
        for function in (long_row, long_values, comes_round):
            self.fails(InvalidRow, (), function, TWO, (), 0)
            self.fails(InvalidRow, (), function, LONE, (), 5)
        self.assertEqual(values(TWO, (), [2, 3]), [(2, 1), (3, 1)])

    def test_rows_that_do_not_come_back(self):
        for board, row in [(THREE, (0,)), (MARKED, (0,)), (with_marks(LONE, (1,)), (0,)), (D4, (1, 2, 0))]:
            self.assertIsNone(order_back(board, row))
            for function in (long_row, long_values, comes_round):
                for times in (1, 0, -4):
                    self.fails(InvalidRow, row, function, board, row, times)
            self.fails(InvalidRow, row, long_row, board=board, row=row, times=2)

    def test_numbers(self):
        for wrong in [[], [1], [1, 2, 3], [0, 1], [1, 0], [-1, 5], [HUGE, -HUGE], [1, 1, 0]]:
            self.fails(InvalidNumbers, wrong, values, TWO, (0,), wrong)
            self.fails(InvalidNumbers, wrong, values, board=TWO, row=(), numbers=wrong)
        for wrong in [[1, 1], [1, 1, 1, 0], [1] * 5, [-1, 1, 1, 1]]:
            self.fails(InvalidNumbers, wrong, values, MARKED, (0, 1), wrong)

    def test_times(self):
        for times in (0, -1, -HUGE):
            for function in (long_row, long_values, comes_round):
                self.fails(InvalidNumber, times, function, TWO, (0,), times)
            self.fails(InvalidNumber, times, long_row, board=TWO, row=(0,), times=times)
            self.fails(InvalidNumber, times, long_values, board=DOUBLE, row=(1,), times=times)
            self.fails(InvalidNumber, times, comes_round, board=LONE, row=(0,), most=times)


if __name__ == "__main__":
    unittest.main()
