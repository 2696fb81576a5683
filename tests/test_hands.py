"""neverhalves/hands.py: point [7], its section, and what [9] promises of hands."""
import itertools
import unittest

from helping import (
    A4, APART, B3, D4, DOUBLE, F4, FINITE, G2, LONE, MARKOV, SQUARE, THREE, TWO,
    Case, blocks, multiplied, numbers_behind, random_row, random_sum, rows_up_to, some_numbers,
    swap_plainly, units, with_marks, worth,
)
from neverhalves.errors import NotExact
from neverhalves.hands import (
    beside_hands, first_hand, hand_by, products, same_hands, shortened, sum_by, swapped_hand,
)
from neverhalves.sums import is_sum, letter

MARKED = with_marks(THREE, (4, -4, 0), (0, 1, -2), (-1, 0, 3))
WILD = with_marks(((0, 4, -2), (-2, 0, 1), (4, -4, 0)), (1, -3, 2), (0, 4, -4))
EIGHT = blocks(A4, D4)
ROWS = [
    (LONE, (0, 0, 0)), (units(LONE), (0,)), (TWO, (0, 1, 0, 1, 0, 1, 0, 1)), (units(G2), (0, 1) * 4),
    (MARKED, (0, 1, 2, 0, 1, 2, 0, 1)), (units(B3), (2, 1, 0, 2, 1, 2, 0, 1, 2, 0, 1, 2)),
    (DOUBLE, (0, 1, 0, 1)), (units(DOUBLE), (1, 0, 1)), (units(MARKOV), (0, 1, 2)), (MARKOV, (2, 0, 1, 0)),
    (WILD, (1, 0)), (units(SQUARE), (0, 1, 2, 3)), (units(F4), (0, 1, 2, 3) * 3), (APART, (0, 1, 0)),
    (EIGHT, (0, 4, 1, 5, 2, 6, 3, 7)), (((0, 4), (-4, 0), (4, -4), (-4, 4)), (0, 1)),
]


def under(hand, order):
    """The hand in which the place order[i] has the number i."""
    sums, board = hand
    many = len(sums)
    rows = [board[place] for place in order] + list(board[many:])
    return tuple(sums[place] for place in order), tuple(tuple(row[place] for place in order) for row in rows)


def same_plainly(one, other):
    """The first of all orders that makes the one hand the other one."""
    if len(one[0]) != len(other[0]):
        return None
    for order in itertools.permutations(range(len(one[0]))):
        if under(one, order) == other:
            return order
    return None


class ByRows(Case):
    def test_first_hand(self):
        board = with_marks(TWO, (1, 2))
        told = self.both_ways(first_hand, board=board)
        self.assertEqual(told, (((((1, 0, 0), 1),), (((0, 1, 0), 1),)), board))
        self.assertEqual(first_hand(LONE), (((((1,), 1),),), LONE))
        self.assertEqual(len(first_hand(EIGHT)[0]), 8)

    def test_values_worked_out_in_numbers(self):
        for board, row in ROWS:
            numbers = some_numbers(len(board), len(row))
            sums, behind = self.both_ways(hand_by, board=board, row=row)
            wanted = board
            for place in row:
                wanted = swap_plainly(wanted, place)
            self.assertEqual(behind, wanted)
            self.assertEqual([worth(told, numbers) for told in sums], numbers_behind(board, row, numbers))

    def test_sums_of_rows(self):
        for board, row in ROWS:
            many = len(board[0])
            for end in range(len(row) + 1):
                sums, behind = hand_by(board, row[:end])
                self.assertEqual(len(sums), many)
                for told in sums:
                    self.assertIs(is_sum(told, len(board)), True)
                    for powers, coefficient in told:
                        self.assertGreaterEqual(coefficient, 1)
                        self.assertTrue(all(power >= 0 for power in powers[many:]))

    def test_place_by_place(self):
        for board, row in ROWS:
            hand = first_hand(board)
            self.assertEqual(hand_by(board, ()), hand)
            for end, place in enumerate(row):
                hand = swapped_hand(hand, place)
                self.assertEqual(hand_by(board, row[:end + 1]), hand)
                self.assertEqual(sum_by(board, row[:end + 1]), hand[0][place])
            self.assertEqual(self.both_ways(sum_by, board=board, row=row), hand[0][row[-1]])
            for place in reversed(row):
                hand = swapped_hand(hand, place)
            self.assertEqual(hand, first_hand(board))

    def test_swapped_twice(self):
        for board, row in ROWS:
            hand = hand_by(board, row)
            for place in set(row):
                again = self.both_ways(swapped_hand, hand=hand, place=place)
                self.assertEqual(swapped_hand(again, place), hand)

    def test_what_swaps_make(self):
        self.assertEqual(sum_by(LONE, (0,)), (((-1,), 2),))
        self.assertEqual(sum_by(units(LONE), (0,)), (((-1, 0), 1), ((-1, 1), 1)))
        self.assertEqual(sum_by(((0,), (-2,), (3,)), (0,)), (((-1, 0, 3), 1), ((-1, 2, 0), 1)))
        self.assertEqual(sum_by(((0,), (2,), (3,)), (0,)), (((-1, 0, 0), 1), ((-1, 2, 3), 1)))
        self.assertEqual(sum_by(((0, 2), (-1, 0)), (1,)), (((0, -1), 1), ((2, -1), 1)))
        self.assertEqual(sum_by(((0, 2), (-1, 0)), (0,)), (((-1, 0), 1), ((-1, 1), 1)))

    def test_beside_hands(self):
        for board, row in ROWS:
            if len(board[0]) > 3 or board is WILD:
                continue
            told = self.both_ways(beside_hands, board=board, row=row[:3])
            self.assertIs(type(told), list)
            hand = hand_by(board, row[:3])
            self.assertEqual(told, [swapped_hand(hand, place) for place in range(len(board[0]))])
        self.assertEqual(beside_hands(LONE, ()), [swapped_hand(first_hand(LONE), 0)])


class Products(Case):
    def test_of_first_hands(self):
        board = with_marks(THREE, (4, -4, 0), (0, 1, -2))
        one = (((0,) * 5, 1),)
        hand = first_hand(board)
        self.assertEqual(self.both_ways(products, hand=hand, place=0), ((((0, 0, 0, 4, 0), 1),), (((0, 1, 0, 0, 0), 1),)))
        self.assertEqual(products(hand, 1), ((((1, 0, 0, 0, 1), 1),), (((0, 0, 1, 4, 0), 1),)))
        self.assertEqual(products(hand, 2), ((((0, 1, 0, 0, 0), 1),), (((0, 0, 0, 0, 2), 1),)))
        self.assertEqual(products(first_hand(LONE), 0), ((((0,), 1),), (((0,), 1),)))
        self.assertEqual(products(first_hand(with_marks(LONE, (1,))), 0), ((((0, 1), 1),), (((0, 0), 1),)))
        self.assertEqual(products(first_hand(with_marks(TWO, (0, 0), (0, 0), (0, 0))), 1)[1], one)

    def test_behind_rows(self):
        for board, row in ROWS:
            sums, behind = hand_by(board, row)
            many = len(sums)
            letters = [letter(at, len(board)) for at in range(many, len(board))]
            for place in range(many):
                if abs(max(line[place] for line in behind)) > 4 or abs(min(line[place] for line in behind)) > 4:
                    continue
                above = below = (((0,) * len(board), 1),)
                for told, line in zip(list(sums) + letters, behind):
                    for _ in range(line[place]):
                        above = multiplied(above, told)
                    for _ in range(-line[place]):
                        below = multiplied(below, told)
                self.assertEqual(products((sums, behind), place), (above, below))


class PassedHands(Case):
    def test_a_division_that_comes_out(self):
        x, y = letter(0, 2), letter(1, 2)
        hand = ((x, (((0, 0), 1), ((1, 0), 2))), TWO)
        told = swapped_hand(hand, 0)
        self.assertEqual(told, (((((-1, 0), 2), ((0, 0), 2)), hand[0][1]), ((0, -1), (1, 0))))
        self.assertEqual(swapped_hand(((y, x), TWO), 1)[0], (y, (((-1, 0), 1), ((-1, 1), 1))))

    def test_not_exact(self):
        x, y = letter(0, 2), letter(1, 2)
        more = (((0, 0), 1), ((1, 0), 1))
        self.fails(NotExact, 0, swapped_hand, ((more, y), TWO), 0)
        self.fails(NotExact, 0, swapped_hand, hand=((more, x), APART), place=0)
        self.fails(NotExact, 0, swapped_hand, (((((0, 0), 2),), y), TWO), 0)
        self.fails(NotExact, 0, swapped_hand, (((((1, 0), 3),), y), APART), 0)
        self.fails(NotExact, 2, swapped_hand, (first_hand(THREE)[0][:2] + ((((0, 0, 0), 7),),), THREE), 2)
        self.assertEqual(swapped_hand(((more, x), TWO), 0)[0][0], (((0, 0), 1),))

    def test_products_that_cancel(self):
        minus = (((0, 0), -1),)
        x = letter(0, 2)
        told = swapped_hand(((x, minus), TWO), 0)
        self.assertEqual(told, (((), minus), ((0, -1), (1, 0))))
        self.assertEqual(swapped_hand((((((0, 0), 5), ((3, 1), 1)), minus), TWO), 0)[0][0], ())

    def test_a_rest_that_is_far_away(self):
        many = 12
        plain = first_hand(with_marks(blocks(TWO, TWO), *[(1,) * 4] * 8))
        wide = tuple(sorted([((0,) * many, 1)] + [
            (tuple(int(at == far) for at in range(many)), 1) for far in range(4, 11)]))
        tall = tuple(sorted([((0,) * many, 1)] + [
            (tuple(40 * (at == far) for at in range(many)), 1) for far in range(4, 12)]))
        hand = ((wide, tall) + plain[0][2:], plain[1])
        self.fails(NotExact, 0, swapped_hand, hand, 0)
        more = random_sum(1, 290, many, 40, 30)
        self.fails(NotExact, 0, swapped_hand, ((wide, more) + plain[0][2:], plain[1]), 0)


class SameHands(Case):
    def test_first_order_of_plain_hands(self):
        self.assertEqual(self.both_ways(same_hands, one=hand_by(TWO, (0, 1, 0, 1, 0)), other=first_hand(TWO)), (1, 0))
        self.assertIsNone(self.both_ways(same_hands, one=hand_by(TWO, (0,)), other=first_hand(TWO)))
        for board in (THREE, MARKED, units(B3), A4):
            hand = hand_by(board, (0, 2, 1))
            for order in itertools.permutations(range(len(board[0]))):
                self.assertEqual(same_hands(hand, under(hand, order)), order)

    def test_all_rows_of_a_board(self):
        for board in (TWO, units(TWO), with_marks(THREE, (1, -1, 2)), units(G2), APART):
            hands = [hand_by(board, row) for row in rows_up_to(len(board[0]), 3)]
            for one, other in itertools.product(hands, repeat=2):
                self.assertEqual(same_hands(one, other), same_plainly(one, other))

    def test_alike_sums(self):
        one = (((0, 0, 0), 1),)
        empty = ((0,) * 3,) * 3
        for board in (empty, THREE, MARKOV, B3, ((0, 0, 1), (0, 0, 1), (-1, -1, 0))):
            for order in itertools.permutations(range(3)):
                for sums in ((one, one, one), (one, one, letter(2, 3)), (letter(1, 3), one, one)):
                    hand = (sums, board)
                    other = under(hand, order)
                    self.assertEqual(same_hands(hand, other), same_plainly(hand, other))
                    self.assertEqual(same_hands(other, hand), same_plainly(other, hand))
        self.assertEqual(same_hands(((one,) * 3, empty), ((one,) * 3, empty)), (0, 1, 2))

    def test_alike_sums_told_apart_by_marks(self):
        one = (((0,) * 4, 1),)
        hand = ((one,) * 3, ((0,) * 3,) * 3 + ((1, 2, 3),))
        for order in itertools.permutations(range(3)):
            self.assertEqual(same_hands(hand, under(hand, order)), order)
        self.assertIsNone(same_hands(hand, (hand[0], hand[1][:3] + ((1, 2, 2),))))

    def test_marks_stay_what_they_are(self):
        one = first_hand(with_marks(TWO, (1, 0), (0, 1)))
        other = first_hand(with_marks(TWO, (0, 1), (1, 0)))
        self.assertIsNone(same_hands(one, other))
        self.assertIsNone(same_hands(first_hand(with_marks(TWO, (1, 2))), first_hand(with_marks(TWO, (2, 1)))))
        self.assertIsNone(same_hands(first_hand(with_marks(TWO, (1, 2))), first_hand(with_marks(TWO, (1, 3)))))

    def test_boards_that_are_not_the_same(self):
        self.assertIsNone(same_hands(first_hand(TWO), first_hand(((0, -1), (1, 0)))))
        self.assertIsNone(same_hands(first_hand(TWO), first_hand(APART)))
        unlike = [first_hand(((0, over), (-under, 0))) for over in (1, 2) for under in (1, 2)]
        for hand, other in itertools.permutations(unlike, 2):
            self.assertIsNone(same_hands(hand, other))
        one = (((0, 0), 1),)
        self.assertEqual(same_hands(((one, one), TWO), ((one, one), ((0, -1), (1, 0)))), (1, 0))

    def test_unlike_numbers(self):
        self.assertIsNone(same_hands(first_hand(TWO), first_hand(THREE)))
        self.assertIsNone(same_hands(first_hand(THREE), first_hand(TWO)))
        self.assertIsNone(same_hands(first_hand(TWO), first_hand(with_marks(TWO, (0, 0)))))
        self.assertIsNone(same_hands(first_hand(with_marks(LONE, (0,))), first_hand(APART)))
        self.assertIsNone(same_hands(first_hand(APART), first_hand(with_marks(LONE, (0,)))))

    def test_hands_of_many_places(self):
        order = (7, 3, 5, 1, 0, 2, 4, 6)
        hand = hand_by(EIGHT, (0, 4, 1, 5))
        self.assertEqual(same_hands(hand, under(hand, order)), order)
        self.assertEqual(same_hands(under(hand, order), hand), tuple(order.index(at) for at in range(8)))


class Shortened(Case):
    def test_pairs_fall_out(self):
        self.assertEqual(self.both_ways(shortened, row=(0, 1, 1, 0, 2)), (2,))
        for row, wanted in [((), ()), ((5,), (5,)), ((5, 5), ()), ((5, 5, 5), (5,)), ((0, 1, 0), (0, 1, 0)),
                            ((1, 0, 0, 1, 1), (1,)), ((0, 1, 2, 2, 1, 0), ()), ((3, 3, 2, 2), ()),
                            ((10 ** 20, 10 ** 20, 9), (9,)), ((0, 1, 1, 2, 2, 0, 3), (3,))]:
            self.assertEqual(shortened(row), wanted)

    def test_the_same_hand(self):
        for row in rows_up_to(2, 7):
            short = shortened(row)
            self.assertEqual(hand_by(TWO, short), hand_by(TWO, row))
            self.assertTrue(all(one != other for one, other in zip(short, short[1:])))


class Guarantees(Case):
    def test_value_for_ones_is_an_integer(self):
        for board, row in ROWS:
            for told in hand_by(board, row)[0]:
                self.assertEqual(worth(told, [1] * len(board)).denominator, 1)

    def test_finite_boards_come_round(self):
        for board, _, hands, _ in FINITE:
            if hands > 20:
                continue
            found = [first_hand(board)]
            lots = {tuple(sorted(found[0][0]))}
            for hand in found:
                for place in range(len(board[0])):
                    then = swapped_hand(hand, place)
                    if tuple(sorted(then[0])) not in lots:
                        lots.add(tuple(sorted(then[0])))
                        found.append(then)
            self.assertEqual(len(found), hands)


if __name__ == "__main__":
    unittest.main()
