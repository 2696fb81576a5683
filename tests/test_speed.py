"""How long calls take: the inputs that once took longest, and the mean over boards of all kinds."""
import time
import unittest

from helping import A4, B3, C4, D4, ENDLESS, F4, FINITE, MARKS, Case, random_row, random_sum, with_marks
from neverhalves import boards, books, depths, ends, hands, heights, rounds, sums, within

F4_LINE = ((0, -1, 0, 0), (1, 0, 1, 0), (0, -2, 0, 1), (0, 0, -1, 0))
WIDE = ((0, 1, -1, 0), (-1, 0, 1, 1), (1, -1, 0, 1), (0, -1, -1, 0), (1, -1, -1, 0), (-1, 0, 1, 1), (1, 1, 1, 0),
        (1, 1, 1, 0), (0, -1, -1, 1), (-1, 0, 1, 0), (0, 0, 0, 0), (0, -1, -1, 0))
SEVEN = (
    ((-1, 0, 1, 0, 1, -1, 3, 1, 1, 2, 1, 2), -4), ((-1, 1, 0, 0, 0, 0, 2, 0, 1, 3, 1, 2), -4),
    ((0, 0, 0, 1, -2, -1, -1, 2, -2, 1, -2, -2), 142990668678015260423287),
    ((1, 2, 0, -1, -1, 1, 1, 0, -2, -1, 0, -2), -1), ((1, 3, 1, -1, -1, 2, 1, 0, -1, -1, 0, -2), -1),
    ((2, 1, 0, 0, 0, 0, 0, -1, -1, -2, 0, -1), -1), ((2, 2, 1, 0, 0, 1, 0, -1, 0, -2, 0, -1), -1),
)
TWENTY = (
    ((-2, -1, -2, 3, -2), 1), ((-2, -1, -1, 2, -2), 1), ((-2, -1, -1, 2, -1), 2), ((-2, -1, 0, 1, -1), 2),
    ((-2, -1, 0, 1, 0), 1), ((-2, -1, 1, 0, 0), 1), ((-1, -2, -2, 2, -2), 2), ((-1, -2, -1, 1, -2), 4),
    ((-1, -2, -1, 1, -1), 2), ((-1, -2, 0, 0, -2), 2), ((-1, -2, 0, 0, -1), 4), ((-1, -2, 1, -1, -1), 2),
    ((-1, 0, -1, 3, 0), 1), ((-1, 0, 0, 2, 1), 1), ((0, -3, -2, 1, -2), 1), ((0, -3, -1, 0, -2), 3),
    ((0, -3, 0, -1, -2), 3), ((0, -3, 1, -2, -2), 1), ((0, -1, -1, 2, 0), 1), ((0, -1, 0, 1, 0), 1),
)
FOUR_SUMS = [
    (((-1, -1, 0, 0), 1), ((-1, 0, 0, 0), 1), ((0, -1, 2, 0), 1)), (((-1, 0, 0, 0), 1), ((-1, 1, 0, 0), 1)),
    (((-1, -1, -1, 0), 1), ((-1, 0, -1, -1), 1), ((-1, 0, -1, 0), 1), ((-1, 0, 0, -1), 1), ((-1, 1, -1, -1), 1),
     ((-1, 1, 0, -1), 1), ((0, -1, 1, 0), 1)),
    (((0, 0, 0, -1), 1), ((0, 0, 1, -1), 1)),
]
LOTS = ((0, -1, 0, 0), (1, 0, 1, 0), (0, -2, 0, 1), (0, 0, -1, 0), (-3, 0, -3, -2), (-1, -2, 3, -1), (0, 3, 2, 0),
        (0, 4, 1, 0))

# Each call with the milliseconds that it may take; it took far more, and takes far less.
LONGEST = [
    (5, depths.hands_with, (F4_LINE, FOUR_SUMS)), (2, depths.lots_together, (LOTS, 1)),
    (1, within.is_let, (WIDE, SEVEN)), (1, within.barring, (WIDE, SEVEN)),
    (2, within.as_product, (((0, 0, -1), (0, 0, 1), (1, -1, 0), (-1, 1, 1), (1, 0, 0)), (0, 1, 2, 0), TWENTY)),
    (2, rounds.web, (((0, 1, 0, -1), (-1, 0, 0, 1), (0, 0, 0, -1), (2, -2, 1, 0)),)),
    (2, heights.hand_of_heights, (((0, 0, 1, -1), (0, 0, 0, -1), (-1, 0, 0, 1), (1, 1, -1, 0)),
                                  [(0, 0, 0, -1), (-1, 0, 0, 0)])),
]


def seconds_of(function, told):
    """The least time of some calls."""
    found = []
    for _ in range(7):
        begun = time.perf_counter()
        function(*told)
        found.append(time.perf_counter() - begun)
    return min(found)


class Longest(Case):
    def test_answers(self):
        self.assertEqual(depths.hands_with(F4_LINE, FOUR_SUMS[:1]), [
            row for row in ends.all_rows(F4_LINE) if FOUR_SUMS[0] in hands.hand_by(F4_LINE, row)[0]])
        self.assertEqual(depths.hands_with(F4_LINE, FOUR_SUMS), [
            row for row in ends.all_rows(F4_LINE) if all(told in hands.hand_by(F4_LINE, row)[0] for told in FOUR_SUMS)])
        self.assertEqual(depths.lots_together(LOTS, 1), 28)
        self.assertIs(within.is_let(WIDE, SEVEN), within.barring(WIDE, SEVEN) is None)

    def test_each(self):
        for most, function, told in LONGEST:
            self.assertLess(1000 * seconds_of(function, told), most, function)


class Mean(Case):
    """Many calls one after the other, so that the mean tells."""

    def check(self, most, calls):
        """The mean over some calls is at most so many milliseconds."""
        begun = time.perf_counter()
        for function, told in calls:
            try:
                function(*told)
            except ValueError:
                pass
        self.assertLess(1000 * (time.perf_counter() - begun) / len(calls), most)

    def boards(self):
        """Boards of all kinds, with some marks, with a row for each."""
        for seed in range(6):
            for board in [told for told, _, _, _ in FINITE] + ENDLESS:
                many = len(board[0])
                board = boards.swapped_by(board, random_row(seed, many, seed)) if board not in ENDLESS else board
                yield with_marks(board, *[row[:many] for row in MARKS[:seed]]), random_row(seed, many, 4)

    def test_walks(self):
        told = list(self.boards())
        self.check(1, [(function, (board,)) for board, _ in told
                       for function in (rounds.web, rounds.distances, ends.all_rows, depths.depths, rounds.rings)])
        self.check(2, [(ends.all_sums, (board,)) for board, _ in told])
        self.check(0.5, [(depths.lots_together, (board, len(board[0]))) for board, _ in told])
        self.check(0.5, [(function, (board,)) for board, _ in told
                         for function in (ends.is_endless, ends.types, ends.how_many_hands)])
        self.check(1, [(heights.row_to_height, (board, (0,) * (len(board[0]) - 1) + (-1,))) for board, _ in told])
        self.check(1, [(books.rows_back, (board, 6)) for board, _ in told])
        self.check(1, [(ends.row_between, (board, row, row[::-1])) for board, row in told])

    def test_together(self):
        told = []
        for table in (A4, B3, C4, D4, F4):
            for many in (0, 4):
                board = with_marks(table, *[row[:len(table)] for row in MARKS[:many]])
                for row in ends.all_rows(board)[::9]:
                    told.append((board, list(hands.hand_by(board, row)[0])))
        self.check(3, [(depths.hands_with, (board, found)) for board, found in told])
        self.check(3, [(depths.go_together, (board, found[0], found[-1])) for board, found in told])

    def test_within(self):
        calls, short = [], []
        for seed, (board, row) in enumerate(self.boards()):
            told = random_sum(seed, min(20, 1 + seed), len(board), 3, 20) if len(board) > 1 else sums.letter(0, 1)
            for one in [told] + [one for one in hands.hand_by(board, row[:2])[0] if len(one) <= 8]:
                short.append((within.is_let, (board, one)))
                short.append((within.barring, (board, one)))
                for function in (within.written, within.read_back, within.as_product):
                    calls.append((function, (board, row[:1], one)))
        self.check(0.5, short)
        self.check(1, calls)


if __name__ == "__main__":
    unittest.main()
