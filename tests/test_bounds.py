"""A call of each function at the bounds of point [2] and of the sections: they are quick enough."""
import unittest

from helping import (
    A4, B4, C4, D4, F4, MARKOV, MARKS, Timed, as_sum, blocks, letters_added, random_row, random_sum, units, with_marks,
)
from neverhalves import boards, ends, hands, rounds, sums, within
from neverhalves.errors import Endless, NotExact

WIDE = with_marks(F4, *MARKS)


class Bounds(Timed):
    def test_sums_of_three_hundred_terms(self):
        one = random_sum(1, 300, 12, 40, 30)
        other = random_sum(2, 300, 12, 40, 30)
        self.assertIs(sums.is_sum(one, 12), True)
        self.assertLessEqual(len(sums.plus(one, other)), 600)
        product = sums.times(one, other)
        self.assertEqual(len(product), 90000)
        self.assertEqual(sums.divided(product, other), one)
        self.assertEqual(len(sums.freed(one)), 300)
        self.assertEqual(len(sums.least_powers(one)), 12)
        self.assertEqual(sums.least_powers(sums.ones(one, list(range(12)))), (0,) * 12)
        numbers = [10 ** 30 - 1 - 2 * at for at in range(12)]
        top, bottom = sums.value(one, numbers)
        self.assertGreater(bottom, 1)
        self.assertNotEqual(top, 0)

    def test_sums_that_were_returned(self):
        many = sums.power(letters_added(range(4), 12), 12)
        self.assertEqual(len(many), 455)
        self.assertEqual(len(sums.times(many, many)), 2925)
        self.assertEqual(sums.divided(sums.times(many, many), many), many)
        tall = sums.put((((2,), 1),), [(((5000,), 1),)])
        self.assertEqual(tall, (((10000,), 1),))
        self.assertEqual(sums.value(tall, [3]), (3 ** 10000, 1))

    def test_powers(self):
        dense = as_sum({(at,): 10 ** 29 + at for at in range(160)})
        self.assertEqual(len(sums.power(dense, 12)), 1909)
        self.assertEqual(len(sums.power(letters_added(range(5), 5, 1), 8)), 1287)
        self.assertEqual(len(sums.power(letters_added([0, 1], 2, 1), 12)), 91)

    def test_divisions(self):
        # 71 * 70 numbers are just below 5000.
        more, less = (((0, 0), -1), ((1, 0), 1)), (((0, 0), -1), ((0, 1), 1))
        top = sums.times((((0, 0), -1), ((70, 0), 1)), (((0, 0), -1), ((0, 69), 1)))
        quotient = sums.divided(top, sums.times(more, less))
        self.assertEqual(len(quotient), 70 * 69)
        self.assertIsNone(sums.divided(sums.plus(top, (((3, 3), 1),)), sums.times(more, less)))
        self.assertEqual(len(sums.divided((((0,), -1), ((4999,), 1)), (((0,), -1), ((1,), 1)))), 4999)
        self.assertIsNone(sums.divided((((0,), -2), ((4999,), 1)), (((0,), -1), ((1,), 1))))
        self.assertIsNone(sums.divided((((0,), -1), ((4999,), 1)), (((0,), -10 ** 29), ((1,), 1))))
        one = as_sum({(at, far): 10 ** 29 - at * far for at in range(17) for far in range(17)})
        self.assertIsNone(sums.divided(one, as_sum({(at, 9 - at): 10 ** 29 + at for at in range(10)})))
        long = as_sum({(at,): 10 ** 29 + at for at in range(280)})
        self.assertEqual(sums.divided(sums.times(long, (((0,), 7), ((20,), 1))), long), (((0,), 7), ((20,), 1)))

    def test_divisions_that_come_near(self):
        other = random_sum(3, 150, 2, 10, 30)
        quotient = random_sum(4, 2, 2, 20, 30)
        product = sums.times(quotient, other)
        self.assertEqual(sums.divided(product, other), quotient)
        for at in range(0, len(product), 9):
            wrong = product[:at] + ((product[at][0], product[at][1] + 1),) + product[at + 1:]
            self.assertIsNone(sums.divided(wrong, other))
        # One part of the other sum divides, and the rest grows with each step.
        grows = sums.times((((0, 0), 1), ((1, 0), 1)), (((0, 0), 10 ** 29), ((0, 1), 1)))
        one = sums.times((((0, 0), 1), ((1, 0), 1)), random_sum(5, 140, 2, 34, 30))
        self.assertIsNone(sums.divided(one, grows))

    def test_a_division_of_which_a_part_comes_out(self):
        half, wide = letters_added([0], 12, 1), letters_added(range(1, 6), 12, 1)
        plain = hands.first_hand(boards.marked(blocks(((0, 1), (-1, 0)), ((0,),)), [(0, 0, 0)] * 9))
        # 1 and the product of the entry above 0 add up to a multiple of the half alone.
        more = sums.plus(sums.times(half, random_sum(5, 145, 12, 40, 30)), (((0,) * 12, -1),))
        self.fails(NotExact, 0, hands.swapped_hand, ((sums.times(half, wide), more) + plain[0][2:], plain[1]), 0)

    def test_put(self):
        eight = [random_sum(at, 8, 1, 7, 30) for at in range(12)]
        terms = random_sum(1, 20, 12, 4, 30)
        self.assertIsNone(sums.put(terms, eight))
        whole = as_sum({tuple(abs(power) for power in powers): many for powers, many in terms})
        self.assertEqual(sums.put(whole, eight)[0][0], sums.least_powers(sums.put(whole, eight)))
        alike = {}
        for seed in range(200):
            powers = random_sum(seed, 1, 11, 4, 1)[0][0]
            if abs(sum(powers)) <= 4 and len(alike) < 20:
                alike[powers + (-sum(powers),)] = seed + 1
        told = sums.put(as_sum(alike), [eight[0]] * 12)
        self.assertEqual(told, (((0,), sum(alike.values())),))
        wide = letters_added(range(7), 12, 1)
        one = as_sum({(4, 0): 3, (0, 4): 1, (2, 1): -2, (1, 3): 5})
        self.assertGreater(len(sums.put(one, [wide, letters_added([8, 9], 12)])), 300)
        plain = letters_added(range(5), 5, 2)
        back = sums.put((((-4, 8), 1), ((-3, 4), 1)), [plain, plain])
        self.assertEqual(back, sums.plus(sums.power(plain, 4), plain))

    def test_put_where_steps_would_have_no_end(self):
        letters = 8
        wide = letters_added(range(7), letters, 1)
        tall = [((tuple(40 * (at == place) for at in range(letters)), 1),) for place in range(7)]
        one = as_sum({(-1,) + tuple(int(at == place) for at in range(7)): 1 for place in range(-1, 7)})
        self.assertIsNone(sums.put(one, [wide] + tall))

    def test_boards(self):
        big = boards.beside(boards.beside(F4, D4), boards.beside(B4, WIDE))
        big = boards.beside(big, boards.beside(big, big))
        self.assertEqual(boards.size(big), (48, 24))
        row = tuple(at * 7 % 48 for at in range(12))
        self.assertEqual(boards.swapped_by(boards.swapped_by(big, row), row[::-1]), big)
        self.assertEqual(len(boards.pieces(big)), 12)
        self.assertEqual(len(boards.weights(big)), 48)
        full = tuple(tuple(0 if at == far else 4 if far > at else -4 for far in range(4)) for at in range(4))
        full = boards.marked(full, MARKS)
        long = random_row(1, 4, 12)
        self.assertEqual(boards.swapped_by(boards.swapped_by(full, long), long[::-1]), full)
        self.assertIs(boards.is_board(boards.swapped_by(full, long)), True)
        six = boards.marked(blocks(A4, ((0, 1), (-1, 0))), [(1, -1, 2, -2, 3, -3)] * 8)
        self.assertEqual(boards.first_renamed(boards.renamed(six, (5, 3, 1, 0, 2, 4))), boards.first_renamed(six))

    def test_hands(self):
        for seed in range(12):
            for board in (WIDE, with_marks(D4, *MARKS), with_marks(B4, *MARKS), with_marks(C4, *MARKS)):
                row = random_row(seed, 4, 12)
                hand = hands.hand_by(board, row)
                self.assertEqual(hands.sum_by(board, row), hand[0][row[-1]])
                self.assertEqual(len(hands.beside_hands(board, row)), 4)
                self.assertEqual(hands.same_hands(hand, hand), (0, 1, 2, 3))
        endless = boards.marked(((0, 1, 0, 0), (-1, 0, 2, 0), (0, -2, 0, 1), (0, 0, -1, 0)), MARKS)
        for row in [(1, 2, 1, 0), (0, 3, 1, 2), (2, 1, 3), (0, 1, 2, 3, 0, 1)]:
            self.assertLessEqual(max(len(told) for told in hands.hand_by(endless, row)[0]), 150)
        self.assertEqual(sums.value(hands.sum_by(units(MARKOV), (0, 1, 2)), [1] * 6), (29, 1))
        twelve = with_marks(blocks(F4, D4, A4), *[(1, -1, 0) * 4] * 8)
        row = (0, 4, 8, 1, 5, 9, 2, 6)
        self.assertEqual(len(hands.hand_by(twelve, row)[0]), 12)

    def test_high_entries(self):
        board = ((0, 100), (-100, 0))
        self.assertEqual(len(hands.sum_by(board, (0,))), 2)
        told = hands.swapped_hand(((sums.letter(0, 2), letters_added([0], 2, 1)), ((0, -1), (140, 0))), 0)
        self.assertEqual(len(told[0][0]), 141)

    def test_passed_hands(self):
        table = ((0, 2, -1, 0), (-2, 0, 0, 1), (1, 0, 0, 0), (0, -1, 0, 0))
        board = boards.marked(table, MARKS)
        plain = hands.first_hand(board)
        wide = random_sum(7, 44, 12, 5, 9)
        hand = ((plain[0][0], wide) + plain[0][2:], board)
        above, below = hands.products(hand, 0)
        self.assertGreater(max(len(above), len(below)), 900)
        self.assertEqual(len(hands.swapped_hand(hand, 0)[0][0]), len(above) + len(below))
        for seed in range(5):
            other = (random_sum(seed, 2 + 30 * seed, 12, 5, 9), wide) + plain[0][2:]
            self.fails(NotExact, 0, hands.swapped_hand, (other, board), 0)

    def test_ends_of_all_types(self):
        for table, many in ((A4, 42), (B4, 70), (C4, 70), (D4, 50), (F4, 105)):
            board = with_marks(table, *MARKS[:4])
            self.assertEqual(len(ends.all_rows(board)), many)
            self.assertEqual(len(ends.all_sums(board)), ends.how_many_sums(table))
            self.assertEqual(ends.how_many_hands(with_marks(table, *MARKS)), many)
            last = ends.farthest(board)
            self.assertEqual(len(ends.row_between(board, (), last)), len(last))
            for seed in range(5):
                row, other = random_row(seed, 4, 12), random_row(seed + 9, 4, 12)
                way = ends.row_between(board, row, other)
                one, wanted = hands.hand_by(board, row + way), hands.hand_by(board, other)
                self.assertIsNotNone(hands.same_hands(one, wanted))

    def test_ends_of_many_pieces(self):
        board = boards.marked(blocks(F4, D4, A4, B4, C4, F4), [(1,) * 24] * 8)
        self.assertIs(ends.is_endless(board), False)
        self.assertEqual(ends.types(board), [("A", 4), ("B", 4), ("C", 4), ("D", 4), ("F", 4), ("F", 4)])
        self.assertEqual(ends.how_many_hands(board), 105 * 50 * 42 * 70 * 70 * 105)
        self.assertEqual(ends.how_many_sums(board), 28 + 16 + 14 + 20 + 20 + 28)
        for table in (((0, 4), (-4, 0)), MARKOV):
            with self.assertRaises(Endless):
                ends.types(blocks(F4, D4, table))

    def test_within(self):
        board = with_marks(A4, *MARKS)
        told = random_sum(1, 20, 12, 3, 30)
        whole = as_sum({tuple(abs(power) for power in powers): many for powers, many in told})
        for row in ((0,), (3, 0), (0, 1), (0, 1, 2), (2, 1)):
            self.assertGreater(len(within.written(board, row, whole)), 20)
            self.assertIsNone(within.written(board, row, told))
            self.assertIsNone(within.as_product(board, row, told))
            self.assertIsNone(within.read_back(board, row, told))
            self.assertGreater(len(within.read_back(board, row, whole)), 20)
        self.assertIs(within.is_let(board, whole), True)
        self.assertIs(within.is_let(board, told), False)
        self.assertEqual(within.barring(board, told), 0)
        few = as_sum({powers: many for powers, many in whole[::7]})
        for row in ((0,), (3, 0), (2, 1)):
            self.assertEqual(within.read_back(board, row, within.written(board, row, few)), few)

    def test_rounds(self):
        for table in (A4, B4, C4, D4, F4):
            board = with_marks(table, *MARKS)
            many = ends.how_many_hands(table)
            self.assertEqual(len(rounds.web(board)), 2 * many)
            self.assertEqual(sum(rounds.distances(board)), many)
            self.assertEqual(sum(length * times for length, times in rounds.rings(board)), 6 * many)
            self.assertEqual(rounds.round_length(board, 0, 1), 5)


if __name__ == "__main__":
    unittest.main()
