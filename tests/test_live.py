"""neverhalves/live.py: its section."""
import random
import unittest

from helping import (
    APART, B2, B3, D4, DOUBLE, G2, LONE, MARKOV, THREE, TWO, Case, blocks, random_row, units, with_marks,
)
from neverhalves.boards import negative, swapped_by
from neverhalves.columns import columns, greens
from neverhalves.errors import InvalidBoard, InvalidNumbers, InvalidPlace, InvalidRow, NothingToUndo
from neverhalves.folds import folded
from neverhalves.hands import first_hand, hand_by, same_hands, sum_by
from neverhalves.heights import heights
from neverhalves.live import Live
from neverhalves.sums import value

HUGE = 10 ** 30
MARKED = with_marks(THREE, (1, -2, 0), (0, 3, 1))
WRONG_BOARDS = [(), ((),), ((1,),), ((0, 1), (1, 0)), ((0, 2), (0, 0)), ((0, 1), (-1, 0), (1,))]
# Boards that the program told.
TOLD = [folded(D4, (0, 2, 3, 1)), swapped_by(MARKED, (1, 0, 1)), negative(B3)]
BOARDS = [LONE, TWO, APART, B2, G2, THREE, B3, D4, MARKED, units(TWO), blocks(TWO, LONE), with_marks(LONE, (5,), (-9,)),
          DOUBLE, MARKOV, units(DOUBLE)] + TOLD


class Stands(Case):
    """A test case that can tell whether a live hand is what a row makes of a board."""

    def stands(self, live, board, row):
        """All that a live hand tells is that of a board and a row."""
        sums, now = hand_by(board, row)
        self.assertEqual(live.board, now)
        self.assertEqual(live.sums, list(sums))
        self.assertIs(type(live.sums), list)
        self.assertEqual(live.row, row)
        self.assertIs(type(live.row), tuple)
        self.assertEqual(live.first, board)
        self.assertEqual(len(live), len(row))
        self.assertEqual([live.sum_now(place) for place in range(len(board[0]))], list(sums))
        self.assertEqual(live.columns(), columns(board, row))
        self.assertEqual(live.heights(), heights(board, row))
        self.assertEqual(live.greens(), greens(board, row))
        self.assertEqual(live.order(), same_hands((sums, now), first_hand(board)))


class Swaps(Stands):
    def test_swaps_rows_and_undos(self):
        for board in BOARDS:
            live = Live(board)
            self.stands(live, board, ())
            row = ()
            for seed in range(3):
                places = random_row(seed, len(board[0]), seed)
                self.assertIsNone(live.do(places))
                row += places
                self.stands(live, board, row)
                self.assertIsNone(live.swap(len(board[0]) - 1))
                row += (len(board[0]) - 1,)
                self.stands(live, board, row)
                self.assertIsNone(live.undo())
                row = row[:-1]
                self.stands(live, board, row)
            while row:
                self.assertIsNone(live.undo())
                row = row[:-1]
                self.stands(live, board, row)
            self.fails(NothingToUndo, 0, live.undo)
            self.stands(live, board, ())

    def test_twelve_swaps_and_eight(self):
        for board, many in ((D4, 12), (with_marks(D4, (1, 2, -3, 4), (0, -1, 0, 1)), 12), (with_marks(B3, (4, -4, 4)), 12),
                            (DOUBLE, 8), (units(DOUBLE), 8), (MARKOV, 4)):
            row = random_row(2, len(board[0]), many)
            live = Live(board)
            live.do(row)
            self.stands(live, board, row)
            for at in reversed(range(many)):
                live.undo()
            self.stands(live, board, ())

    def test_by_name(self):
        live = Live(board=TWO)
        self.assertIsNone(live.swap(place=0))
        self.assertIsNone(live.do(row=(1, 0)))
        self.stands(live, TWO, (0, 1, 0))
        self.assertEqual(live.sum_now(place=0), sum_by(TWO, (0, 1, 0)))
        self.assertEqual(live.worth(place=0, numbers=[2, 3]), value(sum_by(TWO, (0, 1, 0)), [2, 3]))

    def test_no_swaps_at_all(self):
        live = Live(TWO)
        self.assertIsNone(live.do(()))
        self.assertEqual(len(live), 0)
        self.fails(NothingToUndo, 0, live.undo)
        live.swap(1)
        live.do(())
        self.assertIsNone(live.undo())
        self.assertEqual(len(live), 0)

    def test_the_board_passed_is_first(self):
        live = Live(MARKED)
        live.do((0, 1))
        self.assertIs(live.first, MARKED)

    def test_order(self):
        live = Live(TWO)
        self.assertEqual(live.order(), (0, 1))
        live.do((0, 1, 0, 1))
        self.assertIsNone(live.order())
        live.swap(0)
        self.assertEqual(live.order(), (1, 0))
        live.undo()
        self.assertIsNone(live.order())


class Lists(Stands):
    def test_sums_are_new(self):
        live = Live(THREE)
        live.do((1, 2))
        told = live.sums
        self.assertIsNot(told, live.sums)
        told.append(None)
        told[0] = ()
        self.stands(live, THREE, (1, 2))
        for function in (live.columns, live.heights, live.greens):
            told = function()
            self.assertIsNot(told, function())
            told.clear()
            self.stands(live, THREE, (1, 2))

    def test_numbers_stay(self):
        live = Live(MARKED)
        live.do((0, 2))
        numbers = [2, -3, 5, -7, 11]
        for place in range(3):
            self.assertEqual(live.worth(place, numbers), value(live.sum_now(place), [2, -3, 5, -7, 11]))
        self.assertEqual(numbers, [2, -3, 5, -7, 11])
        numbers.clear()
        self.stands(live, MARKED, (0, 2))


class Worths(Case):
    def test_worth(self):
        chance = random.Random(4)
        for board in BOARDS:
            live = Live(board)
            for place in random_row(1, len(board[0]), 4):
                live.swap(place)
                numbers = [chance.choice((-1, 1)) * chance.randint(1, 10 ** 6) for _ in board]
                for at in range(len(board[0])):
                    self.assertEqual(live.worth(at, numbers), value(live.sums[at], numbers))


class Twins(Stands):
    def test_neither_changes_with_the_other(self):
        live = Live(MARKED)
        live.do((0, 1))
        twin = live.twin()
        self.assertIsInstance(twin, Live)
        self.stands(twin, MARKED, (0, 1))
        live.swap(2)
        self.stands(twin, MARKED, (0, 1))
        twin.do((1, 1, 0))
        self.stands(live, MARKED, (0, 1, 2))
        self.stands(twin, MARKED, (0, 1, 1, 1, 0))
        for _ in range(5):
            twin.undo()
        self.stands(twin, MARKED, ())
        self.fails(NothingToUndo, 0, twin.undo)
        self.stands(live, MARKED, (0, 1, 2))
        for _ in range(3):
            live.undo()
        self.fails(NothingToUndo, 0, live.undo)

    def test_a_twin_of_a_twin(self):
        live = Live(TWO)
        twin = live.twin().twin()
        twin.swap(0)
        other = twin.twin()
        twin.undo()
        self.stands(live, TWO, ())
        self.stands(twin, TWO, ())
        self.stands(other, TWO, (0,))


class Errors(Stands):
    def test_boards(self):
        for wrong in WRONG_BOARDS:
            self.fails(InvalidBoard, wrong, Live, wrong)
            self.fails(InvalidBoard, wrong, Live, board=wrong)

    def test_places(self):
        for board in (TWO, MARKED, DOUBLE, LONE):
            live = Live(board)
            live.swap(0)
            for wrong in (-1, len(board[0]), len(board[0]) + 1, HUGE, -HUGE):
                self.fails(InvalidPlace, wrong, live.swap, wrong)
                self.fails(InvalidPlace, wrong, live.sum_now, wrong)
                self.fails(InvalidPlace, wrong, live.worth, wrong, [0])
                self.fails(InvalidPlace, wrong, live.swap, place=wrong)
                self.fails(InvalidPlace, wrong, live.worth, place=wrong, numbers=[])
            self.stands(live, board, (0,))

    def test_rows(self):
        live = Live(MARKED)
        live.do((1, 0))
        for wrong in [(-1,), (3,), (0, 1, 3), (0, -1, 2), (HUGE, 0), (2, 2, -HUGE), (4, 5)]:
            self.fails(InvalidRow, wrong, live.do, wrong)
            self.fails(InvalidRow, wrong, live.do, row=wrong)
            self.stands(live, MARKED, (1, 0))

    def test_numbers(self):
        live = Live(MARKED)
        live.do((1, 0))
        for place in range(3):
            for wrong in [[], [1], [1] * 4, [1] * 6, [0] * 5, [1, 2, 3, 4, 0], [1, 0, 2, 3, 4], [0, 1, 1, 1, 1]]:
                self.fails(InvalidNumbers, wrong, live.worth, place, wrong)
                self.fails(InvalidNumbers, wrong, live.worth, place=place, numbers=wrong)
        self.stands(live, MARKED, (1, 0))


if __name__ == "__main__":
    unittest.main()
