"""neverhalves/marks.py: its section, and what [9] promises of heights and of marks put to 1."""
import random
import unittest

from helping import (
    APART, B2, B3, D4, DOUBLE, G2, LONE, MARKOV, THREE, TWO,
    Case, as_sum, random_row, random_sum, rows_up_to, swap_plainly, units, with_marks,
)
from neverhalves.boards import size, unit_board, without_mark
from neverhalves.errors import InvalidBoard, InvalidHand, InvalidRow, InvalidSum, NoMark
from neverhalves.hands import first_hand, hand_by, swapped_hand
from neverhalves.heights import shapes
from neverhalves.marks import (
    by_heights, common_marks, mark_freed, marks_at, merged, merged_hand, scaled,
)
from neverhalves.sums import letter, ones

HUGE = 10 ** 30
MARKED = with_marks(THREE, (1, -2, 0), (0, 3, 1))
MANY = with_marks(TWO, (4, -4), (0, 0), (-9, 11), (1, 1), (2, -3), (0, 1), (-1, 0), (5, 5), (1, -1), (7, -150))
BOARDS = [units(LONE), units(TWO), MARKED, with_marks(B2, (1, -1), (2, 0), (0, -3)), with_marks(APART, (1, 1), (-1, 2)),
          with_marks(G2, (1, 0), (-1, 1)), with_marks(DOUBLE, (1, -1), (-1, 1)), units(B3), units(MARKOV)]
WRONG_BOARDS = [(), ((),), ((1,),), ((0, 1), (1, 0)), ((0, 2), (0, 0))]
X, Y = (((1, 0), 1),), (((0, 1), 1),)
WRONG_HANDS = [((X, Y), ((0, 1), (1, 0))), ((X,), TWO), ((X, ()), TWO), ((X, Y), units(TWO)), ((), ()),
               ((X, (((1, 0), 1), ((0, 1), 1))), TWO), ((X, (((0, 1), 0),)), TWO)]


def row_added(board, at, other):
    """A board with the row of one mark added to that of another one, the one left out."""
    many = len(board[0])
    rows = [list(row) for row in board]
    rows[many + at] = [a + b for a, b in zip(rows[many + at], rows[many + other])]
    return tuple(tuple(row) for index, row in enumerate(rows) if index != many + other)


def letter_put(told, at, other):
    """A sum with one letter put for another one, or 1, left out."""
    terms = {}
    for powers, coefficient in told:
        line = list(powers)
        if at is not None:
            line[at] += line[other]
        del line[other]
        terms[tuple(line)] = terms.get(tuple(line), 0) + coefficient
    return as_sum(terms)


def random_hand(board, seed):
    """A hand that need not come of a row."""
    return tuple(random_sum(seed + place, 3, len(board), 3, 5) for place in range(len(board[0]))), board


class MarksAt(Case):
    def test_small_ones(self):
        self.assertEqual(self.both_ways(marks_at, board=unit_board(TWO), row=(0,)), [(-1, 0), (1, 1)])
        self.assertEqual(self.both_ways(marks_at, board=TWO, row=(0, 1)), [(), ()])
        self.assertEqual(marks_at(MARKED, ()), [(1, 0), (-2, 3), (0, 1)])
        self.assertEqual(marks_at(with_marks(LONE, (5,), (-7,)), (0,)), [(-5, 7)])

    def test_plainly(self):
        for board in BOARDS + [MANY]:
            many = len(board[0])
            for row in rows_up_to(many, 3):
                now = board
                for place in row:
                    now = swap_plainly(now, place)
                wanted = [tuple(line[place] for line in now[many:]) for place in range(many)]
                self.assertEqual(marks_at(board, row), wanted)


class ByHeights(Case):
    def test_as_the_hand(self):
        for board in BOARDS + [TWO, THREE, MARKOV, DOUBLE, LONE, APART]:
            for seed in range(8):
                row = random_row(seed, len(board[0]), seed // 2)
                told = by_heights(board, row)
                self.assertIs(type(told), list)
                self.assertEqual(told, list(hand_by(board, row)[0]))
        told = self.both_ways(by_heights, board=TWO, row=(0,))
        self.assertEqual(told, [(((-1, 0), 1), ((-1, 1), 1)), (((0, 1), 1),)])
        row = (0, 1, 0)
        wide = with_marks(MANY[:2], *MANY[2:11])
        self.assertEqual(by_heights(wide, row), list(hand_by(wide, row)[0]))


class CommonMarks(Case):
    def test_small_ones(self):
        board = with_marks(LONE, (3,), (-2,), (0,))
        self.assertEqual(self.both_ways(common_marks, board=board, shape=(((0,), 1), ((2,), -5))), (0, -4, 0))
        self.assertEqual(common_marks(board, (((0,), 1),)), (0, 0, 0))
        self.assertEqual(common_marks(LONE, (((0,), 1), ((2,), -5))), ())
        self.assertEqual(common_marks(with_marks(LONE, (0,), (7,)), (((0,), 1), ((1,), -1), ((2,), 3))), (0, 0))

    def test_nought(self):
        board = with_marks(APART, (1, -1), (-2, 2))
        self.assertEqual(self.both_ways(common_marks, board=board, shape=(((0, 0), 1), ((1, 1), -1))), (0, 0))
        self.assertEqual(common_marks(APART, (((0, 0), 1), ((1, 1), -1))), ())

    def test_above_nought(self):
        board = with_marks(APART, (1, -1), (2, 0))
        shape = (((0, 0), 1), ((1, 1), -1), ((2, 1), 3))
        self.assertEqual(common_marks(board, shape), (0, 0))
        board = with_marks(APART, (1, 1), (2, 0))
        self.assertEqual(common_marks(with_marks(APART, (0, 3), (2, 0)), shape), (0, 0))
        shape = (((0, 0), 1), ((0, 1), 1), ((1, 0), -1), ((2, 2), 4))
        self.assertEqual(common_marks(board, shape), (0, 0))
        told = (((0, 0), 1), ((0, 2), -1), ((3, 4), 5), ((4, 3), 7))
        self.assertEqual(common_marks(with_marks(APART, (1, 0)), told), (3,))
        self.assertEqual(common_marks(with_marks(APART, (-1, 0)), told), (-4,))

    def test_plainly(self):
        chance = random.Random(4)
        for board in BOARDS:
            many = len(board[0])
            for seed in range(12):
                told = random_sum(seed, 1 if many == 1 else 1 + seed % 5, many, 3, 1)
                shape = as_sum({**{tuple(map(abs, powers)): many_times for powers, many_times in told},
                                (0,) * many: 1})
                terms = {}
                for powers, coefficient in shape:
                    key = tuple(sum(line[j] * powers[j] for j in range(many)) for line in board)
                    terms[key] = terms.get(key, 0) + coefficient
                left = as_sum(terms)
                wanted = tuple(min(powers[at] for powers, _ in left) if left else 0
                               for at in range(many, len(board)))
                self.assertEqual(common_marks(board, shape), wanted)
            for seed in range(3):
                for shape in shapes(board, random_row(chance.randint(0, 9), many, seed + 1)):
                    self.assertEqual(len(common_marks(board, shape)), size(board)[1])


class Merged(Case):
    def test_small_ones(self):
        self.assertEqual(self.both_ways(merged, board=unit_board(TWO), at=0, other=1), ((0, 1), (-1, 0), (1, 1)))
        self.assertEqual(merged(unit_board(THREE), 2, 0), THREE + ((0, 1, 0), (1, 0, 1)))
        self.assertEqual(merged(unit_board(THREE), 0, 2), THREE + ((1, 0, 1), (0, 1, 0)))

    def test_plainly(self):
        for board in BOARDS + [MANY, with_marks(LONE, (HUGE,), (-HUGE,), (1,))]:
            marks = size(board)[1]
            for at in range(marks):
                for other in range(marks):
                    if at != other:
                        self.assertEqual(merged(board, at, other), row_added(board, at, other))

    def test_hands_of_rows(self):
        for board in BOARDS:
            marks, many = size(board)[1], len(board[0])
            for seed in range(6):
                row = random_row(seed, many, seed // 2)
                hand = hand_by(board, row)
                for at in range(marks):
                    for other in range(marks):
                        if at == other:
                            continue
                        sums = tuple(letter_put(told, many + at, many + other) for told in hand[0])
                        wanted = (sums, row_added(hand[1], at, other))
                        self.assertEqual(merged_hand(hand, at, other), wanted)
        start = first_hand(MARKED)
        told = self.both_ways(merged_hand, hand=start, at=1, other=0)
        self.assertEqual(told, first_hand(merged(MARKED, 1, 0)))

    def test_a_swap_goes_along_where_signs_agree(self):
        board = with_marks(THREE, (1, -2, 0), (2, -1, 0), (0, 1, 3))
        for place in range(3):
            one = merged_hand(swapped_hand(first_hand(board), place), 0, 1)
            self.assertEqual(one, swapped_hand(merged_hand(first_hand(board), 0, 1), place))

    def test_any_hands(self):
        for board in BOARDS[1:]:
            many = len(board[0])
            for seed in range(5):
                hand = random_hand(board, seed)
                sums = tuple(letter_put(told, many, many + 1) for told in hand[0])
                if () not in sums:
                    self.assertEqual(merged_hand(hand, 0, 1), (sums, row_added(board, 0, 1)))

    def test_terms_that_add_up_or_cancel(self):
        board = with_marks(LONE, (1,), (1,), (0,))
        told = (((0, 0, 1, 0), 2), ((0, 1, 0, 0), 3), ((1, -1, 2, 5), 7))
        self.assertEqual(merged_hand(((told,), board), 0, 1),
                         (((((0, 1, 0), 5), ((1, 1, 5), 7)),), with_marks(LONE, (2,), (0,))))
        self.assertEqual(merged_hand(((told,), board), 1, 0),
                         (((((0, 1, 0), 5), ((1, 1, 5), 7)),), with_marks(LONE, (2,), (0,))))
        self.assertEqual(merged_hand(((told,), board), 2, 0)[1], with_marks(LONE, (1,), (1,)))
        told = (((0, 0, 1, 0), -3), ((0, 1, 0, 0), 3), ((1, -1, 2, 5), 7))
        self.assertEqual(merged_hand(((told,), board), 0, 1)[0], ((((1, 1, 5), 7),),))


class MarkFreed(Case):
    def test_small_ones(self):
        hand = hand_by(unit_board(TWO), (0,))
        once = self.both_ways(mark_freed, hand=hand, at=0)
        self.assertEqual(once, (((((-1, 0, 0), 1), ((-1, 1, 0), 1)), letter(1, 3)), ((0, -1), (1, 0), (0, 1))))
        self.assertEqual(mark_freed(once, 0), hand_by(TWO, (0,)))

    def test_is_the_hand_without_it(self):
        for board in BOARDS:
            marks, many = size(board)[1], len(board[0])
            for seed in range(6):
                row = random_row(seed, many, seed // 2)
                for at in range(marks):
                    freed = mark_freed(hand_by(board, row), at)
                    self.assertEqual(freed, hand_by(without_mark(board, at), row))

    def test_any_hands(self):
        for board in BOARDS:
            many = len(board[0])
            for seed in range(5):
                hand = random_hand(board, seed)
                for at in range(size(board)[1]):
                    sums = tuple(letter_put(told, None, many + at) for told in hand[0])
                    if () not in sums:
                        self.assertEqual(mark_freed(hand, at), (sums, without_mark(board, at)))
                        self.assertEqual([len(told) for told in sums],
                                         [len(ones(told, [many + at])) for told in hand[0]])

    def test_terms_that_add_up_or_cancel(self):
        board = with_marks(LONE, (1,), (-2,))
        told = (((0, 0, 1), 2), ((0, 1, 1), 3), ((1, -1, 2), 7))
        self.assertEqual(mark_freed(((told,), board), 0), (((((0, 1), 5), ((1, 2), 7)),), with_marks(LONE, (-2,))))
        told = (((0, 0, 1), -3), ((0, 1, 1), 3), ((1, -1, 2), 7))
        self.assertEqual(mark_freed(((told,), board), 0), (((((1, 2), 7),),), with_marks(LONE, (-2,))))


class Scaled(Case):
    def test_small_ones(self):
        self.assertEqual(self.both_ways(scaled, board=MARKED, at=0, times=-2), THREE + ((-2, 4, 0), (0, 3, 1)))
        self.assertEqual(scaled(MARKED, 1, 0), THREE + ((1, -2, 0), (0, 0, 0)))
        self.assertEqual(scaled(MARKED, 1, 1), MARKED)
        self.assertEqual(scaled(MARKED, 1, -HUGE), THREE + ((1, -2, 0), (0, -3 * HUGE, -HUGE)))
        self.assertEqual(scaled(scaled(MANY, 9, 10 ** 200), 9, 0), with_marks(MANY[:11], (0, 0)))


class Errors(Case):
    def test_hands(self):
        for wrong in WRONG_HANDS:
            for at, other in ((0, 1), (-1, -1), (HUGE, 0)):
                self.fails(InvalidHand, wrong, merged_hand, wrong, at, other)
                self.fails(InvalidHand, wrong, mark_freed, wrong, at)
            self.fails(InvalidHand, wrong, merged_hand, hand=wrong, at=0, other=1)
            self.fails(InvalidHand, wrong, mark_freed, hand=wrong, at=0)

    def test_boards(self):
        for wrong in WRONG_BOARDS:
            for function in (marks_at, by_heights):
                self.fails(InvalidBoard, wrong, function, wrong, (-1,))
                self.fails(InvalidBoard, wrong, function, board=wrong, row=())
            self.fails(InvalidBoard, wrong, common_marks, wrong, ())
            self.fails(InvalidBoard, wrong, common_marks, board=wrong, shape=(((0, 0), 1),))
            self.fails(InvalidBoard, wrong, merged, wrong, -1, -1)
            self.fails(InvalidBoard, wrong, merged, board=wrong, at=0, other=1)
            self.fails(InvalidBoard, wrong, scaled, wrong, -1, 0)
            self.fails(InvalidBoard, wrong, scaled, board=wrong, at=0, times=2)

    def test_rows(self):
        for row in [(-1,), (2,), (0, 1, HUGE), (1, 0, -HUGE)]:
            for board in (TWO, DOUBLE, with_marks(TWO, (1, 1))):
                for function in (marks_at, by_heights):
                    self.fails(InvalidRow, row, function, board, row)
                    self.fails(InvalidRow, row, function, board=board, row=row)

    def test_shapes(self):
        for wrong in [(), (((0, 0), 2),), (((0, 1), 1),), (((-1, 0), 1), ((0, 0), 1)), (((0, 0), 1), ((1, -1), 1)),
                      (((0, 0), 1), ((0, 0), 1)), (((0, 0), 1), ((0, 1), 0)), (((0,), 1),), (((0, 0, 0), 1),),
                      (((0, 0, 0, 0), 1),)]:
            for board in (TWO, DOUBLE, units(TWO)):
                self.fails(InvalidSum, wrong, common_marks, board, wrong)
                self.fails(InvalidSum, wrong, common_marks, board=board, shape=wrong)

    def test_marks(self):
        for board in (TWO, with_marks(TWO, (1, 1)), units(TWO), D4):
            marks = size(board)[1]
            hand = hand_by(board, (0, 1))
            for at in (-1, marks, marks + 5, HUGE, -HUGE):
                for other in (at, 0, -7, marks + 1):
                    self.fails(NoMark, at, merged, board, at, other)
                    self.fails(NoMark, at, merged_hand, hand, at, other)
                self.fails(NoMark, at, mark_freed, hand, at)
                self.fails(NoMark, at, scaled, board, at, 5)
                self.fails(NoMark, at, scaled, board=board, at=at, times=0)
                self.fails(NoMark, at, merged, board=board, at=at, other=0)
                for right in range(marks):
                    self.fails(NoMark, at, merged, board, right, at)
                    self.fails(NoMark, at, merged_hand, hand, right, at)
            for at in range(marks):
                self.fails(NoMark, at, merged, board, at, at)
                self.fails(NoMark, at, merged_hand, hand=hand, at=at, other=at)

    def test_a_sum_that_is_nought_then(self):
        board = with_marks(LONE, (1,), (-1,))
        hand = (((((0, 0, 1), -1), ((0, 1, 0), 1)),), board)
        self.fails(InvalidHand, hand, merged_hand, hand, 0, 1)
        self.fails(InvalidHand, hand, merged_hand, hand=hand, at=1, other=0)
        self.fails(NoMark, 2, merged_hand, hand, 0, 2)
        self.fails(NoMark, 0, merged_hand, hand, 0, 0)
        self.assertEqual(len(mark_freed(hand, 0)[0][0]), 2)
        hand = (((((0, 0, 1), -1), ((0, 1, 1), 1)),), board)
        self.fails(InvalidHand, hand, mark_freed, hand, 0)
        self.fails(InvalidHand, hand, mark_freed, hand=hand, at=0)
        self.fails(NoMark, -1, mark_freed, hand, -1)
        two = ((letter(0, 3), (((0, 0, 0), 1), ((0, 0, 2), -1))), with_marks(TWO, (1, 1)))
        self.fails(InvalidHand, two, mark_freed, two, 0)


if __name__ == "__main__":
    unittest.main()
