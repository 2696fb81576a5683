"""neverhalves/ends.py: point [8], its section, and what [9] promises of ends."""
import itertools
import random
import unittest

from helping import (
    A4, APART, B2, B3, B4, C3, C4, D4, DOUBLE, ENDLESS, F4, FINITE, G2, LONE, MARKOV, SQUARE, THREE, TWO,
    Case, blocks, random_row, rows_up_to, swap_plainly, units, with_marks,
)
from neverhalves.boards import is_board, negative, renamed, swapped_by
from neverhalves.ends import (
    all_rows, all_sums, endless_row, farthest, how_many_hands, how_many_sums, is_endless,
    row_between, shows_endless, types,
)
from neverhalves.errors import Endless, InvalidBoard, InvalidRow
from neverhalves.hands import hand_by, same_hands, swapped_hand

HUGE = 10 ** 30
FINITE_ONLY = (types, how_many_hands, how_many_sums, all_rows, all_sums, farthest)
PAIRS = [(one, other) for one, other in itertools.combinations_with_replacement(FINITE, 2)]
MARKED = with_marks(THREE, (1, -2, 0), (0, 3, 1))


def is_heavy(board):
    """Whether two entries of places, multiplied, are below -3."""
    return any(board[i][j] * board[j][i] < -3 for i, j in itertools.combinations(range(len(board[0])), 2))


def first_heavy(board, most):
    """The first row of all rows up to a length behind which a board is heavy."""
    for row in rows_up_to(len(board[0]), most):
        now = board
        for place in row:
            now = swap_plainly(now, place)
        if is_heavy(now):
            return row
    return None


def found_rows(board, start=()):
    """The first rows to all hands from the one behind a row on, told by the sums and boards themselves."""
    found = [((), hand_by(board, start))]
    known = {tuple(sorted(found[0][1][0])): 0}
    for row, hand in found:
        for place in range(len(board[0])):
            then = swapped_hand(hand, place)
            lot = tuple(sorted(then[0]))
            if lot not in known:
                known[lot] = len(found)
                found.append((row + (place,), then))
    return found


class IsEndless(Case):
    def test_finite_types(self):
        for board, _, _, _ in FINITE:
            for told in (board, units(board), negative(board), with_marks(board, (4,) * len(board[0]))):
                self.assertIs(is_endless(told), False)
                self.assertIsNone(endless_row(told))
        for (one, _, _, _), (other, _, _, _) in PAIRS:
            self.assertIs(is_endless(blocks(one, other)), False)
            if len(one) + len(other) <= 4:
                self.assertIsNone(endless_row(blocks(one, other)))
        self.assertIs(self.both_ways(is_endless, board=F4), False)
        self.assertIsNone(self.both_ways(endless_row, board=blocks(TWO, B2)))

    def test_endless_ones(self):
        for board in ENDLESS:
            self.assertIs(is_endless(board), True)
            self.assertEqual(endless_row(board), first_heavy(board, 4))
            self.assertIs(is_endless(blocks(D4, board, F4)), True)
        self.assertEqual(self.both_ways(endless_row, board=DOUBLE), ())
        self.assertIs(self.both_ways(is_endless, board=DOUBLE), True)
        self.assertEqual(endless_row(((0, 0, -3), (0, 0, -1), (1, 1, 0))), (0, 2, 0))
        self.assertEqual(endless_row(((0, -1, -1, 0), (1, 0, 0, 2), (2, 0, 0, 0), (0, -1, 0, 0))), (0, 1, 2, 0))

    def test_rows_of_random_boards(self):
        chance = random.Random(8)
        entries = [(0, 0), (1, -1), (-1, 1), (1, -1), (-1, 1), (1, -2), (2, -1), (-1, 2), (-2, 1), (1, -3), (-3, 1)]
        tried = 0
        while tried < 300:
            many = chance.choice((3, 4))
            rows = [[0] * many for _ in range(many)]
            for i, j in itertools.combinations(range(many), 2):
                rows[i][j], rows[j][i] = chance.choice(entries)
            board = tuple(tuple(row) for row in rows)
            if not is_board(board):
                continue
            tried += 1
            row = endless_row(board)
            self.assertEqual(is_endless(board), row is not None)
            if row is None:
                self.assertIsNone(first_heavy(board, 4))
            else:
                self.assertEqual(row, first_heavy(board, len(row)))
                self.assertIs(shows_endless(board, row), True)

    def test_the_first_row_of_several_pieces(self):
        slow = ((0, 0, -3), (0, 0, -1), (1, 1, 0))
        quick = ((0, -1, -1), (1, 0, -1), (1, 1, 0))
        self.assertEqual(endless_row(quick), first_heavy(quick, 4))
        self.assertEqual(endless_row(blocks(LONE, slow)), (1, 3, 1))
        places = (0, 3, 1, 4, 2, 5)
        for one, other in ((slow, quick), (quick, slow), (slow, slow), (slow, DOUBLE)):
            both = blocks(one, other)
            if len(both) == 6:
                both = renamed(both, places)
            with self.assertRaises(Endless) as caught:
                types(both)
            self.assertEqual(caught.exception.value, first_heavy(both, 3))

    def test_marks_do_not_count(self):
        board = with_marks(TWO, (4, -4), (9, 9), (-9, 9))
        self.assertIs(is_endless(board), False)
        self.assertEqual(types(board), [("A", 2)])
        self.assertIs(shows_endless(board, (0, 1)), False)

    def test_shows_endless(self):
        board = ((0, 0, -3), (0, 0, -1), (1, 1, 0))
        self.assertIs(self.both_ways(shows_endless, board=board, row=(0, 2, 0)), True)
        self.assertIs(shows_endless(board, (0, 2)), False)
        self.assertIs(shows_endless(board, (0, 2, 0, 0)), False)
        self.assertIs(shows_endless(board, (0, 2, 0, 1, 1)), True)
        self.assertIs(shows_endless(DOUBLE, ()), True)
        for row in rows_up_to(4, 3):
            self.assertEqual(shows_endless(SQUARE, row), is_heavy(swapped_by(SQUARE, row)))


class Types(Case):
    def test_each_type(self):
        for board, kind, hands, sums in FINITE:
            for seed in range(6):
                row = random_row(seed, len(board), 2 * seed)
                order = list(range(len(board)))
                random.Random(seed).shuffle(order)
                told = with_marks(renamed(swapped_by(board, row), tuple(order)), *[(seed,) * len(board)] * (seed % 3))
                self.assertEqual(types(told), [kind])
                self.assertEqual(how_many_hands(told), hands)
                self.assertEqual(how_many_sums(told), sums)

    def test_several_pieces(self):
        for (one, kind, hands, sums), (other, further, more, others) in PAIRS:
            board = blocks(one, other)
            self.assertEqual(types(board), sorted([kind, further]))
            self.assertEqual(how_many_hands(board), hands * more)
            self.assertEqual(how_many_sums(board), sums + others)
        board = blocks(G2, F4, TWO, D4, G2, LONE, B2)
        self.assertEqual(self.both_ways(types, board=board),
                         [("A", 1), ("A", 2), ("B", 2), ("D", 4), ("F", 4), ("G", 2), ("G", 2)])
        self.assertEqual(self.both_ways(how_many_hands, board=board), 8 * 105 * 5 * 50 * 8 * 2 * 6)
        self.assertEqual(self.both_ways(how_many_sums, board=board), 8 + 28 + 5 + 16 + 8 + 2 + 6)
        mixed = renamed(blocks(C3, B3, THREE), (8, 3, 0, 6, 4, 1, 7, 5, 2))
        self.assertEqual(types(with_marks(mixed, (1,) * 9)), [("A", 3), ("B", 3), ("C", 3)])

    def test_b_and_c(self):
        self.assertEqual(types(((0, 2), (-1, 0))), [("B", 2)])
        self.assertEqual(types(((0, 1), (-2, 0))), [("B", 2)])
        self.assertEqual(types(((0, 1, 0), (-1, 0, -1), (0, 2, 0))), [("B", 3)])
        self.assertEqual(types(((0, 1, 0), (-1, 0, -2), (0, 1, 0))), [("C", 3)])
        self.assertEqual([types(board) for board in (B4, C4, A4, D4, F4)],
                         [[(letter, 4)] for letter in "BCADF"])
        ring = ((0, 1, -1), (-1, 0, 1), (1, -1, 0))
        self.assertEqual(types(ring), [("A", 3)])


class Rows(Case):
    def test_all_rows_by_the_hands_themselves(self):
        for board in [told for told, _, _, _ in FINITE] + [APART, MARKED, units(B3), blocks(TWO, LONE), blocks(B2, G2)]:
            rows = [row for row, _ in found_rows(board)]
            self.assertEqual(all_rows(board), rows)
            self.assertEqual(rows, sorted(rows, key=lambda row: (len(row), row)))
            self.assertEqual(len(rows), how_many_hands(board))
            self.assertEqual(farthest(board), rows[-1])

    def test_all_rows_are_the_first_ones(self):
        for board in (TWO, B2, THREE, with_marks(B3, (1, -1, 0)), APART):
            hands = {}
            for row in rows_up_to(len(board[0]), 5):
                hands.setdefault(tuple(sorted(hand_by(board, row)[0])), row)
            least = [row for row in hands.values()]
            self.assertEqual([row for row in all_rows(board) if len(row) <= 5], least)

    def test_new_lists(self):
        self.assertEqual(self.both_ways(all_rows, board=TWO), [(), (0,), (1,), (0, 1), (1, 0)])
        self.assertEqual(self.both_ways(all_rows, board=LONE), [(), (0,)])
        self.assertEqual(self.both_ways(farthest, board=TWO), (1, 0))
        self.assertEqual(self.both_ways(all_sums, board=LONE), [(((-1,), 2),), (((1,), 1),)])

    def test_all_sums(self):
        for board in [told for told, _, _, _ in FINITE] + [APART, MARKED, units(B3), blocks(B2, TWO)]:
            sums = {told for _, hand in found_rows(board) for told in hand[0]}
            self.assertEqual(all_sums(board), sorted(sums))
            self.assertEqual(len(sums), how_many_sums(board))

    def test_row_between(self):
        self.assertEqual(self.both_ways(row_between, board=TWO, row=(0, 1), other=(1,)), (0, 1))
        self.assertEqual(row_between(TWO, (0, 1, 0, 1, 0), ()), ())
        for board in (THREE, MARKED, B3, units(G2), blocks(TWO, LONE)):
            many = len(board[0])
            for seed in range(6):
                row = random_row(seed, many, 2 * seed)
                rows = found_rows(board, row)
                for other in [(), (0,), random_row(seed + 50, many, 9), random_row(seed + 90, many, 12)]:
                    wanted = hand_by(board, other)
                    first = [way for way, hand in rows if same_hands(hand, wanted) is not None][0]
                    self.assertEqual(row_between(board, row, other), first)

    def test_row_between_by_all_rows(self):
        for row, other in itertools.product(rows_up_to(2, 3), repeat=2):
            told = row_between(B2, row, other)
            ways = [way for way in rows_up_to(2, 3)
                    if same_hands(hand_by(B2, row + way), hand_by(B2, other)) is not None]
            self.assertEqual(told, ways[0])


class Errors(Case):
    def test_boards(self):
        for wrong in [(), ((),), ((1,),), ((0, 1), (1, 0)), ((0, 2), (0, 0)), ((0, 1, -1), (-1, 0, 1), (1, -2, 0))]:
            for function in (is_endless, endless_row) + FINITE_ONLY:
                self.fails(InvalidBoard, wrong, function, wrong)
                self.fails(InvalidBoard, wrong, function, board=wrong)
            self.fails(InvalidBoard, wrong, shows_endless, wrong, (-1,))
            self.fails(InvalidBoard, wrong, row_between, wrong, (-1,), (-2,))

    def test_rows(self):
        for row in [(-1,), (2,), (0, 1, HUGE), (0, -HUGE)]:
            for board in (TWO, DOUBLE):
                self.fails(InvalidRow, row, shows_endless, board, row)
                self.fails(InvalidRow, row, row_between, board, row, (0, 1))
                self.fails(InvalidRow, row, row_between, board, (0, 1), row)
                self.fails(InvalidRow, row, row_between, board, row, (7,))
            self.fails(InvalidRow, row, shows_endless, board=TWO, row=row)
            self.fails(InvalidRow, row, row_between, board=TWO, row=(), other=row)

    def test_endless(self):
        slow = ((0, 0, -3), (0, 0, -1), (1, 1, 0))
        for board in ENDLESS + [slow, units(slow), blocks(F4, slow), blocks(DOUBLE, DOUBLE), blocks(D4, MARKOV)]:
            wanted = endless_row(board)
            self.assertIsNotNone(wanted)
            for function in FINITE_ONLY:
                with self.assertRaises(Endless) as caught:
                    function(board)
                self.assertEqual(caught.exception.value, wanted)
                with self.assertRaises(Endless) as caught:
                    function(board=board)
                self.assertEqual(caught.exception.value, wanted)
            with self.assertRaises(Endless) as caught:
                row_between(board, (0,), (1, 0))
            self.assertEqual(caught.exception.value, wanted)

    def test_the_row_of_endless(self):
        slow = ((0, 0, -3), (0, 0, -1), (1, 1, 0))
        for function in FINITE_ONLY:
            for board, row in [(DOUBLE, ()), (slow, (0, 2, 0)), (blocks(LONE, slow), (1, 3, 1)),
                               (blocks(F4, slow), (4, 6, 4)), (blocks(slow, slow), (0, 2, 0))]:
                with self.assertRaises(Endless) as caught:
                    function(board)
                self.assertEqual(caught.exception.value, row)
                self.assertIs(type(caught.exception.value), tuple)


if __name__ == "__main__":
    unittest.main()
