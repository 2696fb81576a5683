"""neverhalves/columns.py: point [10], its section, and what [9] promises of columns and full rows."""
import itertools
import unittest

from helping import (
    A4, APART, B2, B3, B4, C4, D4, DOUBLE, ENDLESS, F4, FINITE, G2, LONE, MARKOV, SQUARE, THREE, TWO,
    Case, random_row, rows_up_to, swap_plainly, units, with_marks,
)
from neverhalves.columns import (
    by_columns, columns, first_red, full_rows, greens, is_full, is_green, last_order, shortest_full,
)
from neverhalves.errors import InvalidBoard, InvalidNumber, InvalidRow
from neverhalves.hands import hand_by, same_hands

HUGE = 10 ** 30
MARKED = with_marks(THREE, (1, -2, 0), (0, 3, 1))
SMALL = [LONE, TWO, APART, B2, G2, DOUBLE, THREE, B3, MARKED, MARKOV, with_marks(TWO, (4, -4), (0, 0), (-9, 11))]
WRONG_BOARDS = [(), ((),), ((1,),), ((0, 1), (1, 0)), ((0, 2), (0, 0))]


def columns_plainly(board, row):
    """The columns behind a row, by the rule of swaps by signs."""
    now = units(board)
    for place in row:
        now = swap_plainly(now, place)
    many = len(board[0])
    return [tuple(now[many + i][j] for i in range(many)) for j in range(many)]


def greens_plainly(board, row):
    """The places with an entry above 0 behind a row."""
    return [place for place, column in enumerate(columns_plainly(board, row)) if max(column) > 0]


def first_red_plainly(board, row):
    """The index of the first swap that is not at a green place."""
    for at, place in enumerate(row):
        if place not in greens_plainly(board, row[:at]):
            return at
    return None


def full_plainly(board, row):
    """Whether a row is green, and nothing is green behind it."""
    return first_red_plainly(board, row) is None and greens_plainly(board, row) == []


class Columns(Case):
    def test_small_ones(self):
        self.assertEqual(self.both_ways(columns, board=TWO, row=(0,)), [(-1, 0), (1, 1)])
        self.assertEqual(self.both_ways(columns, board=THREE, row=()), [(1, 0, 0), (0, 1, 0), (0, 0, 1)])
        self.assertEqual(self.both_ways(greens, board=TWO, row=(0,)), [1])
        self.assertEqual(self.both_ways(greens, board=THREE, row=()), [0, 1, 2])
        self.assertEqual(columns(LONE, (0,)), [(-1,)])
        self.assertEqual(greens(LONE, (0,)), [])

    def test_plainly(self):
        for board in SMALL:
            for row in rows_up_to(len(board[0]), 4):
                told = columns(board, row)
                self.assertEqual(told, columns_plainly(board, row))
                self.assertEqual(greens(board, row), greens_plainly(board, row))
                self.assertTrue(all(type(column) is tuple for column in told))

    def test_one_sign(self):
        for board in [told for told, _, _, _ in FINITE] + ENDLESS:
            for seed in range(6):
                row = random_row(seed, len(board), 2 * seed)
                for place, column in enumerate(columns(board, row)):
                    self.assertTrue(any(column))
                    self.assertTrue(min(column) >= 0 or max(column) <= 0)
                    self.assertEqual(place in greens(board, row), min(column) >= 0)

    def test_marks_change_nothing(self):
        for board in (TWO, THREE, G2, MARKOV, D4):
            marks = [(4, -4, 0, 7)[:len(board)], (-9, 12, 1, 0)[:len(board)], (0,) * len(board)] * 4
            more = with_marks(board, *marks)
            for seed in range(5):
                row, other = random_row(seed, len(board), seed + 2), random_row(seed + 9, len(board), 4)
                self.assertEqual(columns(more, row), columns(board, row))
                self.assertEqual(columns(units(board), row), columns(board, row))
                self.assertEqual(greens(more, row), greens(board, row))
                self.assertEqual(is_green(more, row), is_green(board, row))
                self.assertEqual(is_full(more, row), is_full(board, row))
                self.assertEqual(first_red(more, row), first_red(board, row))
                self.assertEqual(by_columns(more, row, other), by_columns(board, row, other))
            self.assertEqual(full_rows(more, 4), full_rows(board, 4))
            self.assertEqual(shortest_full(more, 5), shortest_full(board, 5))

    def test_twice_at_a_place(self):
        for board in SMALL:
            for row in rows_up_to(len(board[0]), 3):
                for place in range(len(board[0])):
                    self.assertEqual(columns(board, row + (place, place)), columns(board, row))


class Green(Case):
    def test_plainly(self):
        for board in SMALL:
            for row in rows_up_to(len(board[0]), 4):
                red = first_red_plainly(board, row)
                self.assertEqual(first_red(board, row), red)
                self.assertIs(is_green(board, row), red is None)
                self.assertIs(is_full(board, row), full_plainly(board, row))

    def test_both_ways(self):
        self.assertIs(self.both_ways(is_green, board=TWO, row=(0, 1)), True)
        self.assertIs(self.both_ways(is_green, board=TWO, row=(0, 1, 1)), False)
        self.assertIs(is_green(TWO, ()), True)
        self.assertIs(self.both_ways(is_full, board=TWO, row=(0, 1, 0)), True)
        self.assertIs(self.both_ways(is_full, board=TWO, row=(0, 1)), False)
        self.assertIs(is_full(TWO, ()), False)
        self.assertIsNone(self.both_ways(first_red, board=TWO, row=(0, 1, 0)))
        self.assertIsNone(first_red(TWO, ()))

    def test_the_first_of_several_red_ones(self):
        self.assertEqual(self.both_ways(first_red, board=TWO, row=(0, 0, 0, 1, 1)), 1)
        self.assertEqual(first_red(THREE, (0, 1, 1, 1, 0, 0)), 2)
        self.assertEqual(first_red(LONE, (0, 0)), 1)

    def test_full_ones_that_are_not_green(self):
        found = 0
        for board in (TWO, THREE, B2, APART):
            for row in rows_up_to(len(board), 6):
                if not greens(board, row) and first_red(board, row) is not None:
                    found += 1
                    self.assertIs(is_full(board, row), False)
                    self.fails(InvalidRow, row, last_order, board, row)
        self.assertGreater(found, 10)
        self.assertEqual(greens(TWO, (1, 0, 1, 1)), greens(TWO, (1, 0)))
        self.assertIs(is_full(LONE, (0, 0, 0)), False)


class FullRows(Case):
    def test_small_ones(self):
        self.assertEqual(self.both_ways(full_rows, board=TWO, length=2), [(1, 0)])
        self.assertEqual(self.both_ways(full_rows, board=TWO, length=3), [(0, 1, 0)])
        self.assertEqual(self.both_ways(full_rows, board=TWO, length=0), [])
        self.assertEqual([full_rows(LONE, length) for length in range(4)], [[], [(0,)], [], []])
        self.assertEqual(full_rows(APART, 2), [(0, 1), (1, 0)])
        self.assertEqual(full_rows(DOUBLE, 2), [(1, 0)])

    def test_of_each_length(self):
        for board in SMALL:
            many = len(board[0])
            for length in range(9 if many < 3 else 7):
                wanted = [row for row in itertools.product(range(many), repeat=length) if full_plainly(board, row)]
                self.assertEqual(full_rows(board, length), wanted)

    def test_greater_ones(self):
        for board in (A4, D4, SQUARE):
            for length in range(9):
                found = full_rows(board, length)
                self.assertEqual(found, sorted(set(found)))
                for row in found[:40]:
                    self.assertEqual(len(row), length)
                    self.assertIs(full_plainly(board, row), True)
        self.assertEqual([len(full_rows(THREE, length)) for length in range(8)], [0, 0, 0, 1, 4, 2, 2, 0])

    def test_all_lead_to_one_hand(self):
        for board in (TWO, APART, THREE, B2, B3, G2, MARKED):
            rows = [row for length in range(9) for row in full_rows(board, length)]
            self.assertTrue(rows)
            first = hand_by(board, rows[0])
            for row in rows:
                self.assertIsNotNone(same_hands(hand_by(board, row), first))
                for column in columns(board, row):
                    self.assertEqual(sorted(column), [-1] + [0] * (len(column) - 1))


class ShortestFull(Case):
    def test_first_of_all(self):
        for board in SMALL + [A4, D4, B4, C4, F4, SQUARE]:
            first = None
            for length in range(7):
                self.assertEqual(shortest_full(board, length), first or (full_rows(board, length) or [None])[0])
                first = first or (full_rows(board, length) or [None])[0]
        self.assertEqual(self.both_ways(shortest_full, board=TWO, most=5), (1, 0))
        self.assertEqual(shortest_full(LONE, 8), (0,))

    def test_most_too_small(self):
        self.assertIsNone(self.both_ways(shortest_full, board=TWO, most=1))
        self.assertIsNone(shortest_full(TWO, 0))
        self.assertIsNone(shortest_full(LONE, 0))
        self.assertEqual(shortest_full(LONE, 1), (0,))
        self.assertEqual(shortest_full(TWO, 2), (1, 0))
        for board in (THREE, A4, D4, F4):
            row = shortest_full(board, 8)
            self.assertIsNone(shortest_full(board, len(row) - 1))
            self.assertEqual(shortest_full(board, len(row)), row)

    def test_none_at_all(self):
        for most in range(9):
            self.assertIsNone(shortest_full(MARKOV, most))
            self.assertEqual(full_rows(MARKOV, most), [])


class LastOrder(Case):
    def test_small_ones(self):
        self.assertEqual(self.both_ways(last_order, board=TWO, row=(0, 1, 0)), (1, 0))
        self.assertEqual(last_order(TWO, (1, 0)), (0, 1))
        self.assertEqual(last_order(LONE, (0,)), (0,))

    def test_plainly(self):
        for board in (TWO, APART, THREE, B2, B3, G2, MARKED, A4, D4):
            rows = [row for length in range(7) for row in full_rows(board, length)]
            for row in rows[:60]:
                told = last_order(board, row)
                for place, column in enumerate(columns(board, row)):
                    self.assertEqual(column, tuple(-int(at == told[place]) for at in range(len(column))))
                self.assertEqual(sorted(told), list(range(len(board[0]))))

    def test_other_rows(self):
        for board, row in [(TWO, ()), (TWO, (0,)), (TWO, (0, 1)), (TWO, (1, 0, 0, 0)), (LONE, ()), (LONE, (0, 0, 0)),
                           (MARKOV, (0, 1, 2)), (TWO, (0, 0, 1, 0))]:
            self.fails(InvalidRow, row, last_order, board, row)
            self.fails(InvalidRow, row, last_order, board=board, row=row)


class ByColumns(Case):
    def test_as_the_hands(self):
        for board in (LONE, TWO, APART, B2, G2, THREE, MARKED, DOUBLE, MARKOV):
            rows = list(rows_up_to(len(board[0]), 3))
            hands = {row: hand_by(units(board), row) for row in rows}
            own = {row: hand_by(board, row) for row in rows}
            for row, other in itertools.product(rows[::2], rows):
                told = by_columns(board, row, other)
                self.assertIs(told, sorted(columns_plainly(board, row)) == sorted(columns_plainly(board, other)))
                self.assertIs(told, same_hands(hands[row], hands[other]) is not None)
                self.assertIs(told, same_hands(own[row], own[other]) is not None)

    def test_but_for_order(self):
        self.assertIs(self.both_ways(by_columns, board=TWO, row=(0, 1, 0), other=(1, 0)), True)
        self.assertIs(by_columns(TWO, (0, 1, 0, 1, 0), ()), True)
        self.assertIs(self.both_ways(by_columns, board=TWO, row=(0, 1), other=(1, 0)), False)
        self.assertIs(by_columns(DOUBLE, (0, 1, 0, 1, 0), ()), False)


class Errors(Case):
    def test_boards(self):
        for wrong in WRONG_BOARDS:
            for function in (columns, greens, is_green, is_full, first_red, last_order):
                self.fails(InvalidBoard, wrong, function, wrong, (-1,))
                self.fails(InvalidBoard, wrong, function, board=wrong, row=())
            for function in (full_rows, shortest_full):
                self.fails(InvalidBoard, wrong, function, wrong, -1)
            self.fails(InvalidBoard, wrong, full_rows, board=wrong, length=2)
            self.fails(InvalidBoard, wrong, shortest_full, board=wrong, most=2)
            self.fails(InvalidBoard, wrong, by_columns, wrong, (-1,), (-2,))
            self.fails(InvalidBoard, wrong, by_columns, board=wrong, row=(), other=())

    def test_rows(self):
        for row in [(-1,), (2,), (0, 1, HUGE), (1, 0, -HUGE)]:
            for board in (TWO, DOUBLE, with_marks(TWO, (1, 1))):
                for function in (columns, greens, is_green, is_full, first_red, last_order):
                    self.fails(InvalidRow, row, function, board, row)
                    self.fails(InvalidRow, row, function, board=board, row=row)
                self.fails(InvalidRow, row, by_columns, board, row, (0, 1))
                self.fails(InvalidRow, row, by_columns, board, row, (5,))
                self.fails(InvalidRow, row, by_columns, board, (0, 1), row)
                self.fails(InvalidRow, row, by_columns, board=board, row=(), other=row)

    def test_numbers(self):
        for wrong in (-1, -2, -HUGE):
            for board in (LONE, TWO, MARKOV, MARKED):
                self.fails(InvalidNumber, wrong, full_rows, board, wrong)
                self.fails(InvalidNumber, wrong, shortest_full, board, wrong)
            self.fails(InvalidNumber, wrong, full_rows, board=TWO, length=wrong)
            self.fails(InvalidNumber, wrong, shortest_full, board=TWO, most=wrong)


if __name__ == "__main__":
    unittest.main()
