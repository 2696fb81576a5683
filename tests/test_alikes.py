"""neverhalves/alikes.py: its section, and what [9] promises of types."""
import itertools
import random
import unittest

from helping import (
    A4, APART, B2, B3, B4, C3, C4, D4, DOUBLE, ENDLESS, F4, FINITE, G2, LONE, MARKOV, SQUARE, THREE, TWO,
    Case, blocks, random_row, rows_up_to, swap_plainly, units, with_marks,
)
from neverhalves.alikes import (
    are_alike, boards_of, directed_round, is_tree, least_board, row_to_board, row_to_tree, sources,
)
from neverhalves.boards import first_renamed, is_board, negative, renamed, swapped_by, table
from neverhalves.ends import endless_row, types
from neverhalves.errors import Endless, InvalidBoard, InvalidNumber

HUGE = 10 ** 30
RING = ((0, -1, 1), (1, 0, -1), (-1, 1, 0))
MARKED = with_marks(THREE, (1, -2, 0), (0, 3, 1))
SLOW = ((0, 0, -3), (0, 0, -1), (1, 1, 0))
WIDE = with_marks(D4, *[(4, -150, 3, 0)] * 10)
WRONG_BOARDS = [(), ((),), ((1,),), ((0, 1), (1, 0)), ((0, 2), (0, 0))]


def shuffled(board, seed):
    """A board behind a row, under other numbers of the places."""
    chance = random.Random(seed)
    many = len(board[0])
    order = tuple(chance.sample(range(many), many))
    return renamed(swapped_by(board, random_row(seed, many, seed)), order)


def least(rows):
    """The least table of all orders of the places."""
    many = len(rows)
    return min(tuple(tuple(rows[i][j] for j in order) for i in order) for order in itertools.permutations(range(many)))


def alikes_plainly(board):
    """All least tables that come of a board."""
    found = {least(board[:len(board[0])])}
    waiting = list(found)
    while waiting:
        now = waiting.pop()
        for place in range(len(now)):
            then = least(swap_plainly(now, place))
            if then not in found:
                found.add(then)
                waiting.append(then)
    return sorted(found)


def is_tree_plainly(rows):
    """Whether places are joined in one piece, and no longer so if any two of them are parted."""
    many = len(rows)
    edges = {(i, j) for i in range(many) for j in range(i) if rows[i][j]}

    def joined(left):
        reached, waiting = {0}, [0]
        while waiting:
            at = waiting.pop()
            for one in range(many):
                if one not in reached and ((at, one) in left or (one, at) in left):
                    reached.add(one)
                    waiting.append(one)
        return len(reached) == many

    return joined(edges) and not any(joined(edges - {edge}) for edge in edges)


def first_plainly(board, most, right):
    """The first row of at most so many places behind which something is right."""
    for row in rows_up_to(len(board[0]), most):
        now = board[:len(board[0])]
        for place in row:
            now = swap_plainly(now, place)
        if right(now):
            return row
    return None


def random_boards(seed, many, number, entries):
    """Some boards of so many places."""
    chance = random.Random(seed)
    while number:
        rows = [[0] * many for _ in range(many)]
        for i, j in itertools.combinations(range(many), 2):
            rows[i][j], rows[j][i] = chance.choice(entries)
        board = tuple(tuple(row) for row in rows)
        if is_board(board):
            number -= 1
            yield board


ENTRIES = [(0, 0), (0, 0), (1, -1), (-1, 1), (1, -2), (-2, 1), (2, -1), (-1, 2), (2, -2), (-2, 2)]


class BoardsOf(Case):
    def test_small_ones(self):
        self.assertEqual(self.both_ways(boards_of, board=LONE), [((0,),)])
        self.assertEqual(self.both_ways(boards_of, board=TWO), [((0, -1), (1, 0))])
        self.assertEqual(boards_of(B2), [((0, -2), (1, 0)), ((0, -1), (2, 0))])
        self.assertEqual(len(boards_of(THREE)), 4)
        self.assertEqual(boards_of(APART), [APART])

    def test_plainly(self):
        for board in [told for told, _, _, _ in FINITE] + [APART, MARKED, WIDE, blocks(TWO, B2), blocks(LONE, THREE)]:
            found = boards_of(board)
            self.assertEqual(found, alikes_plainly(board))
            self.assertEqual(self.both_ways(least_board, board=board), found[0])
            for told in found:
                self.assertEqual(first_renamed(told), told)
                self.assertEqual(types(told), types(board))
            for seed in range(5):
                other = shuffled(board, seed)
                self.assertEqual(boards_of(other), found)
                self.assertEqual(least_board(other), found[0])
                self.assertIn(first_renamed(table(other)), found)

    def test_each_swap_stays(self):
        for board in (A4, B4, C4, D4, F4):
            found = boards_of(board)
            for told in found:
                for place in range(4):
                    self.assertIn(first_renamed(swapped_by(told, (place,))), found)


class AreAlike(Case):
    def test_types(self):
        for (one, kind, _, _), (other, further, _, _) in itertools.product(FINITE, repeat=2):
            told = are_alike(shuffled(one, 3), shuffled(other, 5))
            self.assertIs(told, kind == further)
        for one, other in itertools.product([APART, TWO, B2, G2, blocks(LONE, LONE)], repeat=2):
            self.assertIs(are_alike(one, other), types(one) == types(other))
        self.assertIs(self.both_ways(are_alike, one=THREE, other=RING), True)
        self.assertIs(self.both_ways(are_alike, one=B3, other=C3), False)
        self.assertIs(are_alike(((0, 2), (-1, 0)), ((0, 1), (-2, 0))), True)
        self.assertIs(are_alike(THREE, negative(THREE)), True)

    def test_marks_change_nothing(self):
        self.assertIs(are_alike(MARKED, units(RING)), True)
        self.assertIs(are_alike(WIDE, D4), True)
        self.assertIs(are_alike(D4, WIDE), True)
        self.assertIs(are_alike(WIDE, A4), False)

    def test_other_numbers_of_places(self):
        self.assertIs(are_alike(TWO, THREE), False)
        self.assertIs(are_alike(A4, LONE), False)
        self.assertIs(are_alike(APART, LONE), False)

    def test_an_endless_other_one(self):
        for other in ENDLESS + [SLOW, units(SLOW)]:
            for one in (LONE, TWO, THREE, D4, APART):
                self.assertIs(are_alike(one, other), False)


class RowToBoard(Case):
    def test_plainly(self):
        chance = random.Random(1)
        boards = [TWO, B2, THREE, RING, B3, C3, APART, MARKED, units(RING), DOUBLE, MARKOV]
        boards += list(random_boards(2, 3, 6, ENTRIES))
        for one in boards:
            for other in boards + [shuffled(one, 1), shuffled(one, 4)]:
                wanted = least(table(other))
                most = chance.randint(0, 4)
                row = first_plainly(one, most, lambda now: len(now) == len(wanted) and least(now) == wanted)
                self.assertEqual(row_to_board(one, other, most), row)

    def test_four_places(self):
        for board in [A4, D4, F4, SQUARE] + list(random_boards(3, 4, 3, ENTRIES)):
            for seed in (2, 3):
                other = shuffled(board, seed)
                wanted = least(other)
                row = first_plainly(board, 3, lambda now: least(now) == wanted)
                self.assertEqual(row_to_board(board, other, 3), row)

    def test_most(self):
        for board in (A4, B4, D4, F4):
            for told in boards_of(board):
                row = row_to_board(board, told, 6)
                self.assertIsNotNone(row)
                self.assertEqual(least(swapped_by(board, row)), told)
                for most in range(7):
                    self.assertEqual(row_to_board(board, told, most), row if len(row) <= most else None)

    def test_both_ways(self):
        self.assertEqual(self.both_ways(row_to_board, one=THREE, other=RING, most=1), (1,))
        self.assertIsNone(self.both_ways(row_to_board, one=THREE, other=RING, most=0))
        self.assertEqual(row_to_board(THREE, renamed(THREE, (2, 0, 1)), 0), ())
        self.assertIsNone(row_to_board(THREE, TWO, 3))
        self.assertIsNone(row_to_board(THREE, blocks(TWO, LONE), 6))


class Trees(Case):
    def test_is_tree(self):
        for board in (LONE, TWO, B2, G2, DOUBLE, THREE, B3, C3, A4, D4, F4, MARKED, WIDE, SLOW):
            self.assertIs(self.both_ways(is_tree, board=board), True)
        for board in (APART, RING, MARKOV, SQUARE, blocks(TWO, LONE), blocks(RING, LONE), blocks(TWO, B2), units(APART),
                      blocks(LONE, LONE, LONE), with_marks(RING, (1, 1, 1))):
            self.assertIs(self.both_ways(is_tree, board=board), False)

    def test_all_small_tables(self):
        for many in (1, 2, 3, 4):
            pairs = list(itertools.combinations(range(many), 2))
            for signs in itertools.product((0, 1, -2), repeat=len(pairs)):
                rows = [[0] * many for _ in range(many)]
                for (i, j), entry in zip(pairs, signs):
                    rows[i][j], rows[j][i] = entry, -entry
                board = tuple(tuple(row) for row in rows)
                self.assertIs(is_tree(board), is_tree_plainly(board))

    def test_row_to_tree(self):
        boards = [LONE, TWO, APART, RING, THREE, MARKOV, SQUARE, negative(SQUARE), units(RING), blocks(RING, LONE)]
        boards += list(random_boards(4, 3, 12, ENTRIES)) + list(random_boards(5, 4, 12, ENTRIES))
        for board in boards:
            for most in range(4):
                self.assertEqual(row_to_tree(board, most), first_plainly(board, most, is_tree_plainly))
        self.assertEqual(self.both_ways(row_to_tree, board=RING, most=3), (0,))
        self.assertIsNone(self.both_ways(row_to_tree, board=RING, most=0))
        self.assertEqual(row_to_tree(D4, 0), ())
        for most in range(7):
            self.assertIsNone(row_to_tree(MARKOV, most))
            self.assertIsNone(row_to_tree(blocks(RING, LONE), most))

    def test_row_to_tree_of_finite_ones(self):
        for board in (A4, B4, C4, D4, F4):
            for told in boards_of(board):
                row = row_to_tree(told, 6)
                self.assertEqual(row, first_plainly(told, len(row), is_tree_plainly))
                if row:
                    self.assertIsNone(row_to_tree(told, len(row) - 1))


class Places(Case):
    def test_sources(self):
        self.assertEqual(self.both_ways(sources, board=THREE), [0])
        self.assertEqual(self.both_ways(sources, board=APART), [0, 1])
        self.assertEqual(sources(LONE), [0])
        self.assertEqual(sources(RING), [])
        self.assertEqual(sources(negative(D4)), [1, 2, 3])
        self.assertEqual(sources(with_marks(TWO, (-3, -3))), [0])
        self.assertEqual(sources(blocks(RING, LONE)), [3])
        self.assertEqual(sources(((0, 0, 0), (0, 0, -2), (0, 1, 0))), [0, 2])
        for board in random_boards(6, 4, 60, ENTRIES):
            self.assertEqual(sources(board), [at for at, row in enumerate(board) if all(entry >= 0 for entry in row)])

    def test_directed_round(self):
        self.assertIs(self.both_ways(directed_round, board=RING), True)
        self.assertIs(self.both_ways(directed_round, board=negative(RING)), True)
        self.assertIs(self.both_ways(directed_round, board=((0, 1, 1), (-1, 0, 1), (-1, -1, 0))), False)
        for board in (LONE, TWO, APART, THREE, D4, F4, SQUARE, with_marks(TWO, (1, -1))):
            self.assertIs(directed_round(board), False)
        square = ((0, 1, 0, -1), (-1, 0, 1, 0), (0, -1, 0, 1), (1, 0, -1, 0))
        self.assertIs(directed_round(square), True)
        self.assertIs(directed_round(negative(square)), True)
        self.assertIs(directed_round(MARKOV), True)
        self.assertIs(directed_round(blocks(LONE, RING)), True)
        tail = ((0, 1, 0, 0), (-1, 0, 1, -1), (0, -1, 0, 1), (0, 1, -1, 0))
        self.assertIs(directed_round(tail), True)

    def test_directed_round_plainly(self):
        for board in list(random_boards(7, 3, 60, ENTRIES)) + list(random_boards(8, 4, 120, ENTRIES)):
            many = len(board)
            wanted = any(
                all(board[a][b] > 0 for a, b in zip(places, places[1:] + places[:1]))
                for length in range(2, many + 1) for places in itertools.permutations(range(many), length)
            )
            self.assertIs(directed_round(board), wanted)
            self.assertIs(directed_round(with_marks(board, (9,) * many)), wanted)


class Errors(Case):
    def test_boards(self):
        for wrong in WRONG_BOARDS:
            for function in (boards_of, least_board, is_tree, sources, directed_round):
                self.fails(InvalidBoard, wrong, function, wrong)
                self.fails(InvalidBoard, wrong, function, board=wrong)
            self.fails(InvalidBoard, wrong, row_to_tree, wrong, -1)
            self.fails(InvalidBoard, wrong, row_to_tree, board=wrong, most=2)
            for right in (TWO, DOUBLE, ((1,), (2,))):
                self.fails(InvalidBoard, wrong, are_alike, wrong, right)
                self.fails(InvalidBoard, wrong, row_to_board, wrong, right, -1)
            for right in (TWO, DOUBLE):
                self.fails(InvalidBoard, wrong, are_alike, right, wrong)
                self.fails(InvalidBoard, wrong, are_alike, one=right, other=wrong)
                self.fails(InvalidBoard, wrong, row_to_board, right, wrong, -1)
                self.fails(InvalidBoard, wrong, row_to_board, one=right, other=wrong, most=3)

    def test_numbers(self):
        for wrong in (-1, -2, -HUGE):
            for board in (LONE, TWO, MARKOV, MARKED):
                self.fails(InvalidNumber, wrong, row_to_tree, board, wrong)
                self.fails(InvalidNumber, wrong, row_to_tree, board=board, most=wrong)
                for other in (board, THREE, APART):
                    self.fails(InvalidNumber, wrong, row_to_board, board, other, wrong)
                    self.fails(InvalidNumber, wrong, row_to_board, one=board, other=other, most=wrong)

    def test_endless(self):
        for board in ENDLESS + [SLOW, units(SLOW), blocks(LONE, SLOW)]:
            calls = [(boards_of,), (least_board,)] + [(are_alike, other) for other in (board, LONE, TWO, DOUBLE, D4)]
            for function, *told in calls:
                with self.assertRaises(Endless) as caught:
                    function(board, *told)
                self.assertEqual(caught.exception.value, endless_row(board))
                self.assertIs(type(caught.exception.value), tuple)


if __name__ == "__main__":
    unittest.main()
