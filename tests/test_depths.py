"""neverhalves/depths.py: its section, and what [9] promises of depths."""
import itertools
import random
import unittest

from helping import (
    A4, APART, B2, B3, DOUBLE, ENDLESS, FINITE, G2, LONE, MARKOV, THREE, TWO,
    Case, blocks, multiplied, random_row, random_sum, rows_up_to, units, with_marks,
)
from neverhalves.depths import (
    depth, depths, go_together, hands_with, lots_together, partner, sums_of_depth,
)
from neverhalves.ends import all_rows, all_sums, endless_row, how_many_hands, how_many_sums
from neverhalves.errors import Endless, InvalidBoard, InvalidDepth, InvalidNumber, InvalidPlace, InvalidRow, InvalidSum
from neverhalves.hands import beside_hands, hand_by, sum_by, swapped_hand
from neverhalves.heights import shapes
from neverhalves.sums import letter

HUGE = 10 ** 30
MARKED = with_marks(THREE, (1, -2, 0), (0, 3, 1))
SMALL = [LONE, TWO, APART, B2, G2, THREE, B3, MARKED, units(TWO), blocks(TWO, LONE), with_marks(LONE, (5,), (-90,))]
SLOW = ((0, 0, -3), (0, 0, -1), (1, 1, 0))
WRONG_BOARDS = [(), ((),), ((1,),), ((0, 1), (1, 0)), ((0, 2), (0, 0))]


def depth_plainly(board, told):
    """The least powers of the letters of the places, with other signs."""
    return tuple(-min(powers[at] for powers, _ in told) for at in range(len(board[0])))


def hands_plainly(board):
    """The hands behind all rows, by these."""
    return {row: hand_by(board, row) for row in all_rows(board)}


class Depth(Case):
    def test_small_ones(self):
        self.assertEqual(self.both_ways(depth, board=TWO, told=sum_by(TWO, (0, 1))), (1, 1))
        self.assertEqual(depth(TWO, letter(0, 2)), (-1, 0))
        self.assertEqual(depth(MARKED, letter(3, 5)), (0, 0, 0))
        self.assertEqual(depth(MARKED, (((-40, 2, 0, -7, 1), -3), ((3, -1, 5, 0, 0), 10 ** 30))), (40, 1, 0))
        self.assertEqual(depth(DOUBLE, (((10000, -10000), 1),)), (-10000, 10000))

    def test_any_sums(self):
        for board in (LONE, TWO, MARKED, MARKOV, units(G2)):
            for seed in range(10):
                told = random_sum(seed, 1 + seed, len(board), 40, 30)
                self.assertEqual(depth(board, told), depth_plainly(board, told))

    def test_powers_of_the_shape(self):
        for board in [told for told, _, _, _ in FINITE]:
            many = len(board)
            for seed in range(6):
                row = random_row(seed, many, seed + 1)
                for told, shape in zip(hand_by(board, row)[0], shapes(board, row)):
                    top = tuple(max(powers[at] for powers, _ in shape) for at in range(many))
                    self.assertEqual(tuple(max(far, 0) for far in depth(board, told)), top)


class Depths(Case):
    def test_small_ones(self):
        self.assertEqual(self.both_ways(depths, board=TWO), [(-1, 0), (0, -1), (0, 1), (1, 0), (1, 1)])
        self.assertEqual(depths(LONE), [(-1,), (1,)])
        self.assertEqual(depths(G2), [(-1, 0), (0, -1), (0, 1), (1, 0), (1, 1), (1, 2), (1, 3), (2, 3)])

    def test_of_all_sums(self):
        for board in SMALL + [told for told, _, _, _ in FINITE]:
            found = depths(board)
            sums = {told for hand in hands_plainly(board).values() for told in hand[0]}
            self.assertEqual(found, sorted({depth_plainly(board, told) for told in sums}))
            self.assertEqual(len(found), how_many_sums(board))

    def test_sums_of_a_depth(self):
        for board in SMALL + [A4]:
            left = set(all_sums(board))
            for told in depths(board):
                found = sums_of_depth(board, told)
                self.assertEqual(found, sorted(found))
                for one in found:
                    self.assertEqual(depth_plainly(board, one), told)
                    left.remove(one)
                self.assertTrue(found)
            self.assertEqual(left, set())
        self.assertEqual(self.both_ways(sums_of_depth, board=TWO, told=(1, 1)), [sum_by(TWO, (0, 1))])
        self.assertEqual(self.both_ways(sums_of_depth, board=TWO, told=(-1, -1)), [])
        for told in ((0, 0), (2, 0), (HUGE, -HUGE)):
            self.assertEqual(sums_of_depth(TWO, told), [])


class Together(Case):
    def test_go_together(self):
        for board in SMALL:
            hands = hands_plainly(board)
            sums = all_sums(board)
            for one, other in itertools.product(sums, repeat=2):
                wanted = any(one in hand[0] and other in hand[0] for hand in hands.values())
                self.assertIs(go_together(board, one, other), wanted)
                if one == other:
                    self.assertIs(wanted, True)
        self.assertIs(self.both_ways(go_together, board=TWO, one=letter(0, 2), other=sum_by(TWO, (0,))), False)
        self.assertIs(self.both_ways(go_together, board=TWO, one=letter(0, 2), other=letter(1, 2)), True)

    def test_sums_of_no_hand(self):
        for none in [(((0, 0), 1),), (((1, 0), 2),), (((1, 1), 1),), (((-1, 0), 1),)]:
            self.assertIs(go_together(TWO, none, none), False)
            self.assertIs(go_together(TWO, none, letter(0, 2)), False)
            self.assertIs(go_together(TWO, letter(0, 2), none), False)
            self.assertEqual(hands_with(TWO, [none]), [])
        mark = letter(3, 5)
        self.assertIs(go_together(MARKED, mark, mark), False)
        self.assertEqual(hands_with(MARKED, [letter(0, 5), mark]), [])

    def test_hands_with(self):
        chance = random.Random(2)
        for board in SMALL:
            hands = hands_plainly(board)
            self.assertEqual(hands_with(board, []), list(hands))
            sums = all_sums(board)
            for row, hand in hands.items():
                self.assertEqual(hands_with(board, list(hand[0])), [row])
                self.assertEqual(hands_with(board, list(hand[0])[::-1]), [row])
            for many in (1, 2, 3):
                for _ in range(10):
                    told = [chance.choice(sums) for _ in range(many)]
                    wanted = [row for row, hand in hands.items() if all(one in hand[0] for one in told)]
                    self.assertEqual(hands_with(board, told), wanted)
                    self.assertEqual(hands_with(board, told + told[:1]), wanted)
        self.assertEqual(self.both_ways(hands_with, board=TWO, sums=[letter(1, 2)]), [(), (0,)])
        self.assertEqual(self.both_ways(hands_with, board=LONE, sums=[]), [(), (0,)])

    def test_lots_together(self):
        for board in SMALL + [told for told, _, _, _ in FINITE]:
            many = len(board[0])
            hands = hands_plainly(board)
            for lot in range(many + 1):
                wanted = {frozenset(told) for hand in hands.values() for told in itertools.combinations(hand[0], lot)}
                self.assertEqual(lots_together(board, lot), len(wanted))
            self.assertEqual(lots_together(board, 0), 1)
            self.assertEqual(lots_together(board, 1), how_many_sums(board))
            self.assertEqual(lots_together(board, many), how_many_hands(board))
        self.assertEqual(self.both_ways(lots_together, board=TWO, many=2), 5)
        self.assertEqual([lots_together(THREE, many) for many in range(4)], [1, 9, 21, 14])


class Partner(Case):
    def test_plainly(self):
        for board in SMALL + [DOUBLE, MARKOV, SLOW, units(DOUBLE)]:
            many = len(board[0])
            for seed in range(5):
                row = random_row(seed, many, seed)
                beside = beside_hands(board, row)
                for place in range(many):
                    told = partner(board, row, place)
                    self.assertEqual(told, beside[place][0][place])
                    self.assertEqual(told, sum_by(board, row + (place,)))
                    self.assertEqual(told, swapped_hand(hand_by(board, row), place)[0][place])
        self.assertEqual(self.both_ways(partner, board=TWO, row=(), place=0), sum_by(TWO, (0,)))
        self.assertEqual(self.both_ways(partner, board=DOUBLE, row=(0, 1), place=1), letter(1, 2))

    def test_both_products(self):
        one, other = hand_by(THREE, (1, 0))[0][0], partner(THREE, (1, 0), 0)
        self.assertEqual(multiplied(one, other), multiplied(other, one))
        self.assertNotIn(other, hand_by(THREE, (1, 0))[0])


class Errors(Case):
    def test_boards(self):
        bad = (((0,), 0),)
        for wrong in WRONG_BOARDS:
            self.fails(InvalidBoard, wrong, depth, wrong, bad)
            self.fails(InvalidBoard, wrong, depths, wrong)
            self.fails(InvalidBoard, wrong, sums_of_depth, wrong, ())
            self.fails(InvalidBoard, wrong, go_together, wrong, bad, bad)
            self.fails(InvalidBoard, wrong, hands_with, wrong, [bad])
            self.fails(InvalidBoard, wrong, lots_together, wrong, -1)
            self.fails(InvalidBoard, wrong, partner, wrong, (-1,), -1)
            self.fails(InvalidBoard, wrong, depths, board=wrong)
            self.fails(InvalidBoard, wrong, partner, board=wrong, row=(), place=0)
            self.fails(InvalidBoard, wrong, hands_with, board=wrong, sums=[])
            self.fails(InvalidBoard, wrong, lots_together, board=wrong, many=0)

    def test_rows_and_places(self):
        for row in [(-1,), (2,), (0, 1, HUGE), (1, 0, -HUGE)]:
            for board in (TWO, DOUBLE):
                for place in (0, 1, -1, 2):
                    self.fails(InvalidRow, row, partner, board, row, place)
                self.fails(InvalidRow, row, partner, board=board, row=row, place=7)
        for place in (-1, 2, HUGE, -HUGE):
            for board in (TWO, DOUBLE, units(TWO)):
                self.fails(InvalidPlace, place, partner, board, (0, 1), place)
                self.fails(InvalidPlace, place, partner, board=board, row=(), place=place)

    def test_sums(self):
        right = letter(0, 2)
        for wrong in [(), (((0, 0), 0),), (((1, 0), 1), ((0, 1), 1)), (((0, 1), 1), ((0, 1), 1)), letter(0, 1),
                      letter(0, 3), letter(2, 4), (((), 1),), (((0, 1), 1), ((1,), 1))]:
            for board in (TWO, DOUBLE):
                self.fails(InvalidSum, wrong, depth, board, wrong)
                self.fails(InvalidSum, wrong, depth, board=board, told=wrong)
                self.fails(InvalidSum, wrong, go_together, board, wrong, right)
                self.fails(InvalidSum, wrong, go_together, board, right, wrong)
                self.fails(InvalidSum, wrong, go_together, board, wrong, letter(1, 7))
                self.fails(InvalidSum, wrong, go_together, board=board, one=right, other=wrong)
                for sums in ([wrong], [right, wrong], [wrong, letter(1, 7)], [right, wrong, ()]):
                    self.fails(InvalidSum, wrong, hands_with, board, sums)
                    self.fails(InvalidSum, wrong, hands_with, board=board, sums=sums)
        self.fails(InvalidSum, right, depth, units(TWO), right)
        self.fails(InvalidSum, right, hands_with, units(TWO), [right])

    def test_depths(self):
        for wrong in [(), (1,), (1, 0, 0), (0,) * 4]:
            for board in (TWO, DOUBLE, units(TWO)):
                self.fails(InvalidDepth, wrong, sums_of_depth, board, wrong)
                self.fails(InvalidDepth, wrong, sums_of_depth, board=board, told=wrong)

    def test_numbers(self):
        for board in (LONE, TWO, THREE, DOUBLE, MARKOV, MARKED):
            many = len(board[0])
            for wrong in (-1, many + 1, many + 2, HUGE, -HUGE):
                self.fails(InvalidNumber, wrong, lots_together, board, wrong)
                self.fails(InvalidNumber, wrong, lots_together, board=board, many=wrong)

    def test_endless(self):
        for board in ENDLESS + [SLOW, units(SLOW), blocks(LONE, SLOW)]:
            one = letter(0, len(board))
            calls = [(depths,), (sums_of_depth, (0,) * len(board[0])), (go_together, one, one), (hands_with, []),
                     (hands_with, [one]), (lots_together, 0), (lots_together, len(board[0]))]
            for function, *told in calls:
                with self.assertRaises(Endless) as caught:
                    function(board, *told)
                self.assertEqual(caught.exception.value, endless_row(board))
                self.assertIs(type(caught.exception.value), tuple)
            self.assertEqual(depth(board, one), (-1,) + (0,) * (len(board[0]) - 1))
            self.assertEqual(partner(board, (0,), 0), one)

    def test_rows_up_to_three(self):
        for row in rows_up_to(2, 3):
            self.assertEqual(depth(TWO, hand_by(TWO, row)[0][0]) in depths(TWO), True)


if __name__ == "__main__":
    unittest.main()
