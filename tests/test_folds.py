"""neverhalves/folds.py: its section, and what [9] promises of folds and steady rows."""
import itertools
import random
import unittest

from helping import (
    A4, APART, B2, C3, D4, DOUBLE, LONE, MARKOV, SQUARE, THREE, TWO,
    Case, as_sum, blocks, random_row, random_sum, rows_up_to, some_numbers, units, with_marks, worth,
)
from neverhalves.boards import pieces, renamed, swapped_by, weights
from neverhalves.ends import types
from neverhalves.errors import InvalidBoard, InvalidRow, InvalidSum
from neverhalves.folds import (
    folded, folded_hand, folded_sum, folds, is_fold, rounds_of, steady, unfolded_row,
)
from neverhalves.hands import first_hand, hand_by, same_hands
from neverhalves.sums import letter

HUGE = 10 ** 30
BOW = ((0, 1, 0), (-1, 0, -1), (0, 1, 0))
FIVE = ((0, 1, 0, 0, 0), (-1, 0, -1, 0, 0), (0, 1, 0, 1, 0), (0, 0, -1, 0, -1), (0, 0, 0, 1, 0))
STAR = ((0, 1, 1, 1), (-1, 0, 0, 0), (-1, 0, 0, 0), (-1, 0, 0, 0))
E6 = ((0, 1, 0, 0, 0, 0), (-1, 0, -1, 0, 0, 0), (0, 1, 0, 1, 0, 1), (0, 0, -1, 0, -1, 0), (0, 0, 0, 1, 0, 0),
      (0, 0, -1, 0, 0, 0))
# A ring of six places, all steps one way, and one with sources.
RING = tuple(tuple(1 if far == (at + 1) % 6 else -1 if far == (at - 1) % 6 else 0 for far in range(6))
             for at in range(6))
CROWN = tuple(tuple((1 if at % 2 else -1) if (far - at) % 6 in (1, 5) else 0 for far in range(6)) for at in range(6))
TWINS = blocks(TWO, TWO)
SIX = tuple((0,) * 6 for _ in range(6))
TABLES = [LONE, TWO, APART, B2, THREE, BOW, C3, A4, D4, STAR, SQUARE, DOUBLE, MARKOV, TWINS, FIVE, E6, RING, CROWN]
WRONG_BOARDS = [(), ((),), ((1,),), ((0, 1), (1, 0)), ((0, 2), (0, 0)), ((0, 1), (-1, 0), (1,)), units(LONE), units(TWO),
                with_marks(BOW, (0, 0, 0))]
WRONG_ORDERS = [(), (1,), (-1,), (0, 0), (1, 2), (0, 2), (0, -1), (-1, 0), (1, 0, 1), (0, 1, 3), (HUGE, 0), (0, -HUGE)]


def rounds_plainly(order):
    """The lots of places that come of one another."""
    found = set()
    for start in range(len(order)):
        place, lot = start, set()
        for _ in order:
            lot.add(place)
            place = order[place]
        found.add(tuple(sorted(lot)))
    return sorted(found)


def is_fold_plainly(rows, order):
    """The three wants of a fold, one by one."""
    many = len(rows)
    same = all(rows[order[at]][order[far]] == rows[at][far] for at in range(many) for far in range(many))
    apart, signs = True, True
    for lot in rounds_plainly(order):
        for at, far in itertools.product(lot, repeat=2):
            apart = apart and rows[at][far] == 0
            signs = signs and all(rows[at][column] * rows[far][column] >= 0 for column in range(many))
    return same and apart and signs


class Rounds(Case):
    def test_small_ones(self):
        self.assertEqual(self.both_ways(rounds_of, order=(2, 1, 0)), [(0, 2), (1,)])
        self.assertEqual(rounds_of((0,)), [(0,)])
        self.assertEqual(rounds_of((0, 1, 2, 3, 4, 5)), [(0,), (1,), (2,), (3,), (4,), (5,)])
        self.assertEqual(rounds_of((1, 2, 3, 4, 5, 0)), [(0, 1, 2, 3, 4, 5)])
        self.assertEqual(rounds_of((3, 5, 0, 2, 4, 1)), [(0, 2, 3), (1, 5), (4,)])

    def test_all_orders(self):
        for many in range(1, 7):
            for order in itertools.permutations(range(many)):
                self.assertEqual(rounds_of(order), rounds_plainly(order))


class Folds(Case):
    def test_small_ones(self):
        self.assertEqual(self.both_ways(folds, table=BOW), [(2, 1, 0)])
        self.assertEqual(folds(LONE), [])
        self.assertEqual(folds(TWO), [])
        self.assertEqual(folds(APART), [(1, 0)])
        self.assertEqual(folds(THREE), [])
        self.assertEqual(folds(STAR), [(0, 1, 3, 2), (0, 2, 1, 3), (0, 2, 3, 1), (0, 3, 1, 2), (0, 3, 2, 1)])
        self.assertEqual(folds(TWINS), [(2, 3, 0, 1)])
        self.assertEqual(folds(E6), [(4, 3, 2, 1, 0, 5)])
        self.assertEqual(len(folds(SIX)), 719)
        self.assertIs(self.both_ways(is_fold, table=BOW, order=(2, 1, 0)), True)
        self.assertIs(self.both_ways(is_fold, table=BOW, order=(0, 2, 1)), False)

    def test_no_move_is_a_fold(self):
        for table in TABLES:
            none = tuple(range(len(table)))
            self.assertIs(is_fold(table, none), True)
            self.assertNotIn(none, folds(table))
            self.assertEqual(folded(table, none), table)

    def test_each_want_alone(self):
        # The table does not stay.
        other = ((0, 1, 0), (-1, 0, -2), (0, 2, 0))
        self.assertEqual([is_fold(other, (2, 1, 0)), is_fold_plainly(other, (2, 1, 0))], [False, False])
        # Entries stand within a round.
        ring = ((0, 1, -1), (-1, 0, 1), (1, -1, 0))
        self.assertEqual(renamed(ring, (1, 2, 0)), ring)
        self.assertIs(is_fold(ring, (1, 2, 0)), False)
        self.assertIs(is_fold(MARKOV, (2, 0, 1)), False)
        # Entries of a column have both signs.
        both = ((0, 0, 1, -1), (0, 0, -1, 1), (-1, 1, 0, 0), (1, -1, 0, 0))
        order = (1, 0, 3, 2)
        self.assertEqual(renamed(both, order), both)
        self.assertEqual(rounds_of(order), [(0, 1), (2, 3)])
        self.assertIs(is_fold(both, order), False)
        self.assertEqual(folds(both), [])

    def test_against_all_orders(self):
        for table in TABLES + [swapped_by(E6, (2, 4)), swapped_by(CROWN, (0, 2, 4)), SIX]:
            orders = list(itertools.permutations(range(len(table))))
            wanted = [order for order in orders if is_fold_plainly(table, order)]
            self.assertEqual(folds(table), wanted[1:])
            if table != SIX:
                for order in orders[::7] + wanted:
                    self.assertIs(is_fold(table, order), order in wanted)

    def test_random_tables(self):
        chance = random.Random(5)
        for _ in range(300):
            many = chance.randint(2, 5)
            rows = [[0] * many for _ in range(many)]
            order = list(range(many))
            chance.shuffle(order)
            for _ in range(chance.randint(0, 3)):
                at, far = chance.sample(range(many), 2)
                entry = chance.randint(-2, 2)
                for _ in range(120):
                    rows[at][far], rows[far][at] = entry, -entry
                    at, far = order[at], order[far]
            table = tuple(map(tuple, rows))
            wanted = [one for one in itertools.permutations(range(many)) if is_fold_plainly(table, one)]
            self.assertEqual(folds(table), wanted[1:])


class Folded(Case):
    def test_small_ones(self):
        self.assertEqual(self.both_ways(folded, table=BOW, order=(2, 1, 0)), ((0, 2), (-1, 0)))
        self.assertEqual(folded(STAR, (0, 2, 3, 1)), ((0, 1), (-3, 0)))
        self.assertEqual(types(folded(STAR, (0, 2, 3, 1))), [("G", 2)])
        self.assertEqual(types(folded(STAR, (0, 2, 1, 3))), [("B", 3)])
        self.assertEqual(types(folded(FIVE, (4, 3, 2, 1, 0))), [("C", 3)])
        self.assertEqual(types(folded(E6, (4, 3, 2, 1, 0, 5))), [("F", 4)])
        self.assertEqual(folded(APART, (1, 0)), ((0,),))
        self.assertEqual(folded(SIX, (1, 2, 0, 3, 5, 4)), ((0,) * 3,) * 3)

    def test_any_place_of_a_round(self):
        for table in TABLES:
            for order in folds(table)[:40]:
                lots = rounds_plainly(order)
                told = folded(table, order)
                for at, lot in enumerate(lots):
                    for far, column in enumerate(lots):
                        for place in column:
                            self.assertEqual(told[at][far], sum(table[one][place] for one in lot))
                self.assertEqual(len(told), len(lots))
                self.assertEqual(len(weights(told)), len(lots))

    def test_unfolded_row(self):
        self.assertEqual(self.both_ways(unfolded_row, order=(2, 1, 0), row=(0, 1)), (0, 2, 1))
        self.assertEqual(unfolded_row((2, 1, 0), ()), ())
        self.assertEqual(unfolded_row((0,), (0, 0)), (0, 0))
        self.assertEqual(unfolded_row((2, 1, 0), (0, 0, 1)), (0, 2, 0, 2, 1))
        self.assertEqual(unfolded_row((3, 5, 0, 2, 4, 1), (2, 1, 0, 1)), (4, 1, 5, 0, 2, 3, 1, 5))

    def test_folded_sum(self):
        told = (((0, 0, 2), 1), ((0, 1, 0), 5), ((2, 0, 0), 3))
        self.assertEqual(self.both_ways(folded_sum, order=(2, 1, 0), told=told), (((0, 1), 5), ((2, 0), 4)))
        self.assertEqual(folded_sum((2, 1, 0), (((-1, 0, 0), -2), ((0, 0, -1), 2))), ())
        self.assertEqual(folded_sum((2, 1, 0), ()), ())
        self.assertEqual(folded_sum((0,), (((7,), -1),)), (((7,), -1),))
        self.assertEqual(folded_sum((1, 2, 0), (((-1, 0, 1), 4),)), (((0,), 4),))

    def test_folded_sums_by_values(self):
        chance = random.Random(3)
        for seed in range(40):
            order = list(range(chance.randint(1, 6)))
            chance.shuffle(order)
            lots = rounds_plainly(order)
            told = random_sum(seed, 30, len(order), 3, 3) if len(order) > 1 else letter(0, 1)
            numbers = some_numbers(len(lots), seed)
            spread = [numbers[at] for place in range(len(order)) for at, lot in enumerate(lots) if place in lot]
            result = folded_sum(tuple(order), told)
            self.assertEqual(worth(result, numbers), worth(told, spread))
            self.assertEqual(result, as_sum(dict(result)))


class Steady(Case):
    def steady_plainly(self, table, order, row):
        """By the beginnings, one by one."""
        return all(is_fold_plainly(swapped_by(table, unfolded_row(order, row[:many])), order)
                   for many in range(len(row) + 1))

    def test_small_ones(self):
        self.assertIs(self.both_ways(steady, table=BOW, order=(2, 1, 0), row=(0, 1, 0)), True)
        self.assertIs(steady(BOW, (2, 1, 0), ()), True)
        self.assertEqual(self.both_ways(folded_hand, table=BOW, order=(2, 1, 0), row=()), first_hand(((0, 2), (-1, 0))))

    def test_one_that_ceases_and_comes_back(self):
        self.assertIs(is_fold(CROWN, (2, 3, 4, 5, 0, 1)), True)
        found = []
        for table in (RING, CROWN):
            for order in folds(table):
                rounds = len(rounds_of(order))
                for row in rows_up_to(rounds, 3):
                    wanted = self.steady_plainly(table, order, row)
                    self.assertIs(steady(table, order, row), wanted)
                    if not wanted:
                        self.fails(InvalidRow, order, folded_hand, table, order, row)
                        if is_fold_plainly(swapped_by(table, unfolded_row(order, row)), order):
                            found.append((table, order, row))
        self.assertTrue(found)
        for table, order, row in found[:3]:
            self.assertIs(self.both_ways(steady, table=table, order=order, row=row), False)

    def test_against_the_hand_behind_the_unfolded_row(self):
        for table, order in [(BOW, (2, 1, 0)), (APART, (1, 0)), (STAR, (0, 2, 3, 1)), (STAR, (0, 3, 2, 1)),
                             (TWINS, (2, 3, 0, 1)), (FIVE, (4, 3, 2, 1, 0)), (DOUBLE, (0, 1)),
                             (SQUARE, (0, 1, 2, 3)), (E6, (4, 3, 2, 1, 0, 5))]:
            lots = rounds_plainly(order)
            for seed in range(5):
                row = random_row(seed, len(lots), seed if len(table) < 5 else min(seed, 3))
                if not steady(table, order, row):
                    continue
                sums, board = hand_by(table, unfolded_row(order, row))
                hand = folded_hand(table, order, row)
                self.assertEqual(list(hand[0]), [folded_sum(order, sums[lot[0]]) for lot in lots])
                for at, lot in enumerate(lots):
                    self.assertEqual(len({folded_sum(order, sums[place]) for place in lot}), 1)
                    wanted = tuple(sum(board[one][column[0]] for one in lot) for column in lots)
                    self.assertEqual(hand[1][at], wanted)
                self.assertEqual(hand, hand_by(folded(table, order), row))

    def test_of_finitely_many(self):
        for table, order in [(BOW, (2, 1, 0)), (STAR, (0, 2, 3, 1)), (E6, (4, 3, 2, 1, 0, 5))]:
            rounds = len(rounds_of(order))
            for seed in range(10):
                self.assertIs(steady(table, order, random_row(seed, rounds, 4)), True)

    def test_told_things_go_on(self):
        told = folded(BOW, (2, 1, 0))
        hand = folded_hand(BOW, (2, 1, 0), (0, 1))
        self.assertEqual(same_hands(hand, hand_by(told, (0, 1))), (0, 1))
        self.assertEqual(pieces(told), [(0, 1)])
        for order in folds(E6):
            self.assertEqual(rounds_of(order), [(0, 4), (1, 3), (2,), (5,)])


class Errors(Case):
    def test_boards(self):
        for wrong in WRONG_BOARDS:
            self.fails(InvalidBoard, wrong, folds, wrong)
            self.fails(InvalidBoard, wrong, is_fold, wrong, ())
            self.fails(InvalidBoard, wrong, is_fold, wrong, (0, 1, 2))
            self.fails(InvalidBoard, wrong, folded, wrong, (0, 0))
            self.fails(InvalidBoard, wrong, folded_hand, wrong, (), (-1,))
            self.fails(InvalidBoard, wrong, steady, wrong, (), (-1,))
            self.fails(InvalidBoard, wrong, folds, table=wrong)
            self.fails(InvalidBoard, wrong, is_fold, table=wrong, order=(0,))
            self.fails(InvalidBoard, wrong, folded, table=wrong, order=(0,))
            self.fails(InvalidBoard, wrong, steady, table=wrong, order=(0,), row=())
            self.fails(InvalidBoard, wrong, folded_hand, table=wrong, order=(0,), row=())

    def test_orders(self):
        bad = (((0,), 0),)
        for wrong in WRONG_ORDERS:
            self.fails(InvalidRow, wrong, rounds_of, wrong)
            self.fails(InvalidRow, wrong, unfolded_row, wrong, (-1,))
            self.fails(InvalidRow, wrong, folded_sum, wrong, bad)
            self.fails(InvalidRow, wrong, rounds_of, order=wrong)
            self.fails(InvalidRow, wrong, unfolded_row, order=wrong, row=())
            self.fails(InvalidRow, wrong, folded_sum, order=wrong, told=())
        for wrong in WRONG_ORDERS + [(0, 1), (0, 1, 2, 3), (0,)]:
            self.fails(InvalidRow, wrong, is_fold, BOW, wrong)
            self.fails(InvalidRow, wrong, folded, BOW, wrong)
            self.fails(InvalidRow, wrong, folded_hand, BOW, wrong, (-1,))
            self.fails(InvalidRow, wrong, steady, BOW, wrong, (7,))
            self.fails(InvalidRow, wrong, is_fold, table=BOW, order=wrong)
            self.fails(InvalidRow, wrong, steady, table=BOW, order=wrong, row=())

    def test_what_is_no_fold(self):
        for wrong in [(0, 2, 1), (1, 0, 2), (1, 2, 0), (2, 0, 1)]:
            self.fails(InvalidRow, wrong, folded, BOW, wrong)
            self.fails(InvalidRow, wrong, folded_hand, BOW, wrong, (9,))
            self.fails(InvalidRow, wrong, folded_hand, BOW, wrong, ())
            self.fails(InvalidRow, wrong, steady, BOW, wrong, (-1,))
            self.fails(InvalidRow, wrong, steady, table=BOW, order=wrong, row=())
        self.fails(InvalidRow, (1, 2, 0), folded, MARKOV, (1, 2, 0))

    def test_rows(self):
        for wrong in [(2,), (-1,), (0, 1, 2), (0, HUGE), (-HUGE, 0)]:
            self.fails(InvalidRow, wrong, unfolded_row, (2, 1, 0), wrong)
            self.fails(InvalidRow, wrong, folded_hand, BOW, (2, 1, 0), wrong)
            self.fails(InvalidRow, wrong, steady, BOW, (2, 1, 0), wrong)
            self.fails(InvalidRow, wrong, unfolded_row, order=(2, 1, 0), row=wrong)
            self.fails(InvalidRow, wrong, folded_hand, table=BOW, order=(2, 1, 0), row=wrong)
        order, row = (3, 4, 5, 0, 1, 2), (0, 1)
        self.assertIs(steady(RING, order, row), False)
        self.fails(InvalidRow, order, folded_hand, RING, order, row)
        # A wrong place at the end counts ahead of the order.
        self.fails(InvalidRow, (0, 1, 3), folded_hand, RING, order, (0, 1, 3))

    def test_sums(self):
        for wrong in [(((0, 0, 0), 0),), (((0, 0), 1),), (((0, 0, 0, 0), 1),), (((1, 0, 0), 1), ((0, 1, 0), 1)),
                      (((0, 1, 0), 1), ((0, 1, 0), 1)), (((), 1),)]:
            self.fails(InvalidSum, wrong, folded_sum, (2, 1, 0), wrong)
            self.fails(InvalidSum, wrong, folded_sum, order=(2, 1, 0), told=wrong)


if __name__ == "__main__":
    unittest.main()
