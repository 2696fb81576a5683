"""neverhalves/heights.py: point [11], its section, and what [9] promises of heights and shapes."""
import itertools
import random
import unittest

from helping import (
    A4, APART, B2, B3, C4, D4, DOUBLE, ENDLESS, FINITE, G2, LONE, MARKOV, SQUARE, THREE, TWO,
    Case, as_sum, blocks, multiplied, random_row, random_sum, rows_up_to, some_numbers, units, with_marks, worth,
)
from neverhalves.boards import unit_board
from neverhalves.ends import all_rows, endless_row
from neverhalves.errors import (
    Endless, InvalidBoard, InvalidHeight, InvalidNumbers, InvalidRow, InvalidSum,
)
from neverhalves.hands import hand_by, same_hands, sum_by
from neverhalves.heights import (
    determinant, hand_of_heights, height_of, heights, row_to_height, shape_of, shapes, sum_at,
)

HUGE = 10 ** 30
MARKED = with_marks(THREE, (1, -2, 0), (0, 3, 1))
SMALL = [LONE, TWO, APART, B2, G2, DOUBLE, THREE, B3, MARKED, MARKOV, with_marks(TWO, (4, -4), (0, 0), (-9, 11))]
WRONG_BOARDS = [(), ((),), ((1,),), ((0, 1), (1, 0)), ((0, 2), (0, 0))]
SLOW = ((0, 0, -3), (0, 0, -1), (1, 1, 0))


def degree(board, powers):
    """The degree of a term of 2 n letters, by the table of a board."""
    many = len(board[0])
    told = list(powers[:many])
    for j in range(many):
        for i in range(many):
            told[i] -= powers[many + j] * board[i][j]
    return tuple(told)


def heights_plainly(board, row):
    """The heights behind a row, by the terms of the sums of the hand by the unit board."""
    out = []
    for told in hand_by(units(board), row)[0]:
        found = {degree(board, powers) for powers, _ in told}
        assert len(found) == 1
        out.append(found.pop())
    return out


def shape_plainly(board, told):
    """A sum of 2 n letters with 1 put for the first n ones."""
    terms = {}
    for powers, coefficient in told:
        terms[powers[len(board[0]):]] = terms.get(powers[len(board[0]):], 0) + coefficient
    return as_sum(terms)


def determinant_plainly(rows):
    """The determinant as the sum over all orders."""
    total = 0
    for order in itertools.permutations(range(len(rows))):
        sign = 1
        for at, other in itertools.combinations(range(len(rows)), 2):
            if order[at] > order[other]:
                sign = -sign
        for at, row in enumerate(rows):
            sign *= row[order[at]]
        total += sign
    return total


def put_plainly(board, shape):
    """The sum that comes of a shape with the products of all letters put for its letters."""
    terms = {}
    for powers, coefficient in shape:
        key = tuple(sum(row[j] * powers[j] for j in range(len(row))) for row in board)
        terms[key] = terms.get(key, 0) + coefficient
    return as_sum(terms)


def made_plainly(board, height, shape):
    """What `sum_at` tells, step by step."""
    told = put_plainly(board, shape)
    if not told:
        return ()
    many = len(board[0])
    less = [0] * many + [min(powers[at] for powers, _ in told) for at in range(many, len(board))]
    by = list(height) + [0] * (len(board) - many)
    return as_sum({tuple(p + b - low for p, b, low in zip(powers, by, less)): c for powers, c in told})


def some_shape(seed, many, terms, reach):
    """A sum with the term 1, and others of any sign, powers from 0 on."""
    chance = random.Random(seed)
    found = {(0,) * many: 1}
    while len(found) < terms:
        powers = tuple(chance.randint(0, reach) for _ in range(many))
        if any(powers):
            found[powers] = chance.choice((-3, -1, 1, 2, 10 ** 12))
    return as_sum(found)


class Heights(Case):
    def test_small_ones(self):
        self.assertEqual(self.both_ways(heights, board=TWO, row=(0,)), [(-1, 1), (0, 1)])
        self.assertEqual(self.both_ways(heights, board=THREE, row=()), [(1, 0, 0), (0, 1, 0), (0, 0, 1)])
        self.assertEqual(heights(LONE, (0,)), [(-1,)])
        self.assertEqual(heights(LONE, (0, 0)), [(1,)])

    def test_by_the_terms_of_the_sums(self):
        for board in SMALL:
            for row in rows_up_to(len(board[0]), 4 if board not in (DOUBLE, MARKOV) else 3):
                told = heights(board, row)
                self.assertEqual(told, heights_plainly(board, row))
                self.assertTrue(all(type(height) is tuple for height in told))
        for board in [A4, C4, D4, SQUARE]:
            for seed in range(3):
                row = random_row(seed, 4, 5)
                self.assertEqual(heights(board, row), heights_plainly(board, row))

    def test_determinant_and_signs(self):
        for board in [told for told, _, _, _ in FINITE] + ENDLESS:
            for seed in range(6):
                told = heights(board, random_row(seed, len(board), 2 * seed))
                self.assertIn(determinant(told), (-1, 1))
                for across in zip(*told):
                    self.assertTrue(min(across) >= 0 or max(across) <= 0)

    def test_marks_change_nothing(self):
        for board in (TWO, THREE, G2, MARKOV):
            more = with_marks(board, *[(4, -9, 1)[:len(board)]] * 11)
            for seed in range(4):
                row = random_row(seed, len(board), seed)
                self.assertEqual(heights(more, row), heights(board, row))
                self.assertEqual(shapes(more, row), shapes(board, row))

    def test_same_hands_by_heights(self):
        for board in (TWO, APART, B2, THREE, MARKOV):
            rows = list(rows_up_to(len(board), 3))
            for row, other in itertools.product(rows[::3], rows):
                same = same_hands(hand_by(units(board), row), hand_by(units(board), other)) is not None
                self.assertEqual(sorted(heights(board, row)) == sorted(heights(board, other)), same)

    def test_many_swaps_of_an_endless_board(self):
        told = heights(DOUBLE, (0, 1) * 20)
        self.assertEqual(sorted(told), [(-40, 41), (-39, 40)])
        self.assertEqual(heights(((0, 1000), (-1000, 0)), (0,)), [(-1, 1000), (0, 1)])


class Shapes(Case):
    def test_small_ones(self):
        self.assertEqual(self.both_ways(shapes, board=TWO, row=(0,)), [(((0, 0), 1), ((1, 0), 1)), (((0, 0), 1),)])
        self.assertEqual(shapes(LONE, ()), [(((0,), 1),)])
        self.assertEqual(shapes(G2, (1, 0))[0], (((0, 0), 1), ((1, 0), 1), ((1, 1), 3), ((1, 2), 3), ((1, 3), 1)))

    def test_by_the_sums(self):
        for board in SMALL + [A4, D4, SQUARE]:
            for seed in range(8):
                row = random_row(seed, len(board[0]), seed // 2)
                sums = hand_by(units(board), row)[0]
                self.assertEqual(shapes(board, row), [shape_plainly(board, told) for told in sums])

    def test_the_term_one_and_the_greatest_one(self):
        for board in [told for told, _, _, _ in FINITE] + ENDLESS:
            for seed in range(5):
                for shape in shapes(board, random_row(seed, len(board), seed)):
                    self.assertEqual(shape[0], ((0,) * len(board), 1))
                    top = tuple(max(line) for line in zip(*[powers for powers, _ in shape]))
                    self.assertIn((top, 1), shape)
                    self.assertTrue(all(coefficient >= 1 for _, coefficient in shape))


class HeightOf(Case):
    def test_of_sums_of_hands(self):
        for board in SMALL:
            for row in rows_up_to(len(board[0]), 3):
                sums = hand_by(unit_board(board), row)[0]
                self.assertEqual([height_of(board, told) for told in sums], heights(board, row))
                self.assertEqual([shape_of(board, told) for told in sums], shapes(board, row))

    def test_products(self):
        one, other = hand_by(units(THREE), (0, 1))[0][:2]
        both = tuple(a + b for a, b in zip(height_of(THREE, one), height_of(THREE, other)))
        self.assertEqual(height_of(MARKED, multiplied(one, other)), both)

    def test_of_other_sums(self):
        self.assertIsNone(self.both_ways(height_of, board=TWO, told=()))
        self.assertEqual(self.both_ways(height_of, board=TWO, told=(((2, -3, 1, 4), 5),)), (-2, -2))
        self.assertIsNone(height_of(TWO, (((0, 0, 0, 0), 1), ((1, 0, 0, 0), 1))))
        self.assertEqual(height_of(TWO, (((-1, 0, 0, 0), -4), ((0, 0, 0, 1), 4))), (-1, 0))
        self.assertEqual(height_of(LONE, (((0, 5), 1), ((0, 7), 1))), (0,))
        for seed in range(20):
            told = random_sum(seed, 1 + seed % 3, 6, 5, 9)
            found = {degree(THREE, powers) for powers, _ in told}
            self.assertEqual(height_of(THREE, told), found.pop() if len(found) == 1 else None)

    def test_shape_of(self):
        self.assertEqual(self.both_ways(shape_of, board=TWO, told=()), ())
        self.assertEqual(shape_of(TWO, (((0, 0, 1, -2), 4), ((1, 0, 1, -2), -4))), ())
        self.assertEqual(shape_of(TWO, (((0, 0, 1, -2), 4), ((1, 0, 1, -2), -3), ((7, 7, 0, 9), 2))),
                         (((0, 9), 2), ((1, -2), 1)))
        for seed in range(20):
            told = random_sum(seed, 8, 4, 1, 1)
            self.assertEqual(shape_of(TWO, told), shape_plainly(TWO, told))


class Determinant(Case):
    def test_small_ones(self):
        self.assertEqual(self.both_ways(determinant, rows=[(-1, 1), (0, 1)]), -1)
        self.assertEqual(determinant([(7,)]), 7)
        self.assertEqual(determinant([(0,)]), 0)
        self.assertEqual(determinant([(0, 1), (1, 0)]), -1)
        self.assertEqual(determinant([(0, 0, 1), (1, 0, 0), (0, 1, 0)]), 1)
        self.assertEqual(determinant([(0, 2, 3), (0, 0, 5), (7, 1, 1)]), 70)

    def test_plainly(self):
        chance = random.Random(6)
        for many in range(1, 7):
            for reach in (1, 2, 9, HUGE - 1):
                for _ in range(12):
                    rows = [tuple(chance.randint(-reach, reach) for _ in range(many)) for _ in range(many)]
                    before = list(rows)
                    self.assertEqual(determinant(rows), determinant_plainly(rows))
                    self.assertEqual(rows, before)

    def test_noughts_on_the_diagonal(self):
        chance = random.Random(7)
        for many in range(2, 7):
            for _ in range(15):
                rows = [tuple(0 if i == j or chance.random() < 0.4 else chance.randint(-9, 9) for j in range(many))
                        for i in range(many)]
                self.assertEqual(determinant(rows), determinant_plainly(rows))
            for order in itertools.islice(itertools.permutations(range(many)), 0, 720, 7):
                rows = [tuple(int(j == order[i]) for j in range(many)) for i in range(many)]
                self.assertEqual(determinant(rows), determinant_plainly(rows))

    def test_rows_that_depend_on_one_another(self):
        chance = random.Random(8)
        for many in range(2, 7):
            rows = [tuple(chance.randint(-HUGE, HUGE) for _ in range(many)) for _ in range(many - 1)]
            times = [chance.randint(-3, 3) for _ in rows]
            rows.append(tuple(sum(t * row[j] for t, row in zip(times, rows)) for j in range(many)))
            for at in range(many):
                self.assertEqual(determinant(rows[at:] + rows[:at]), 0)
            self.assertEqual(determinant([(0,) * many] + rows[1:]), 0)


class SumAt(Case):
    def test_sums_of_hands(self):
        for board in SMALL + [with_marks(D4, (1, -1, 2, 0), (0, 0, 0, 0), (3, 3, -2, 1)), A4]:
            for seed in range(10):
                row = random_row(seed, len(board[0]), seed // 2)
                told = [sum_at(board, h, s) for h, s in zip(heights(board, row), shapes(board, row))]
                self.assertEqual(told, list(hand_by(board, row)[0]))
        told = self.both_ways(sum_at, board=TWO, height=(-1, 1), shape=(((0, 0), 1), ((1, 0), 1)))
        self.assertEqual(told, sum_by(TWO, (0,)))

    def test_plainly(self):
        chance = random.Random(9)
        for board in SMALL + [SQUARE, with_marks(((0,) * 3,) * 3, (1, 1, -1)), blocks(TWO, TWO)]:
            many = len(board[0])
            for seed in range(12):
                height = tuple(chance.randint(-12, 12) for _ in range(many))
                shape = some_shape(seed, many, 1 + seed % 3 + (seed > 8) * 20 * (many > 1), 3 + 2 * (many == 1) + seed)
                self.assertEqual(sum_at(board, height, shape), made_plainly(board, height, shape))

    def test_its_value(self):
        shape = some_shape(4, 3, 9, 3)
        numbers = some_numbers(5, 3)
        told = sum_at(MARKED, (2, -3, 0), shape)
        putting = [1] * 3
        for j in range(3):
            for number, row in zip(numbers, MARKED):
                putting[j] *= worth((((row[j],), 1),), [number])
        wanted = worth(shape, putting) * numbers[0] ** 2 / worth((((3,), 1),), [numbers[1]])
        less = [min(powers[at] for powers, _ in put_plainly(MARKED, shape)) for at in (3, 4)]
        for number, low in zip(numbers[3:], less):
            wanted /= worth((((low,), 1),), [number])
        self.assertEqual(worth(told, numbers), wanted)

    def test_an_empty_table(self):
        self.assertEqual(sum_at(LONE, (3,), (((0,), 1), ((1,), 4), ((2,), -2))), (((3,), 3),))
        self.assertEqual(sum_at(LONE, (3,), (((0,), 1), ((1,), 4), ((2,), -5))), ())
        self.assertEqual(sum_at(APART, (0, -2), (((0, 0), 1), ((5, 7), 1))), (((0, -2), 2),))
        self.assertEqual(sum_at(APART, (1, 1), (((0, 0), 1), ((0, 3), -1))), ())

    def test_places_that_are_alike(self):
        board = ((0, 1, 0), (-1, 0, -1), (0, 1, 0))
        shape = (((0, 0, 0), 1), ((0, 0, 1), 2), ((1, 0, 0), -2))
        self.assertEqual(sum_at(board, (0, 0, 0), shape), (((0, 0, 0), 1),))
        shape = (((0, 0, 0), 1), ((0, 0, 1), 2), ((1, 0, 0), 3))
        self.assertEqual(sum_at(board, (0, 1, 0), shape), (((0, 0, 0), 5), ((0, 1, 0), 1)))

    def test_marks_whose_powers_cancel(self):
        board = with_marks(APART, (1, -1), (-2, 2))
        shape = (((0, 0), 1), ((1, 1), -1))
        self.assertEqual(sum_at(board, (5, 5), shape), ())
        self.assertEqual(sum_at(board, (5, 5), (((0, 0), 1), ((1, 1), 1))), (((5, 5, 0, 0), 2),))
        # The terms with the least powers of the mark cancel: what is left has a greater least one.
        shape = (((0, 0), 1), ((1, 0), 3), ((2, 1), -3))
        self.assertEqual(sum_at(board, (0, 0), shape), (((0, 0, 0, 0), 1),))
        shape = (((0, 0), 1), ((0, 1), 3), ((1, 0), 7), ((1, 2), -3))
        self.assertEqual(sum_at(board, (0, 0), shape), (((0, 0, 0, 2), 1), ((0, 0, 1, 0), 7)))

    def test_marks_below_and_above_nought(self):
        board = with_marks(LONE, (3,), (-2,), (0,))
        shape = (((0,), 1), ((2,), -5))
        self.assertEqual(sum_at(board, (-1,), shape), (((-1, 0, 4, 0), 1), ((-1, 6, 0, 0), -5)))

    def test_great_numbers(self):
        board = with_marks(TWO, (100, -250))
        told = sum_at(board, heights(board, (0, 1))[0], shapes(board, (0, 1))[0])
        self.assertEqual(told, hand_by(board, (0, 1))[0][0])


class Ways(Case):
    def test_first_rows(self):
        for board in (LONE, TWO, APART, B2, G2, THREE, MARKED, blocks(TWO, LONE)):
            known = {row: heights(board, row) for row in all_rows(board)}
            first = {}
            for row, told in known.items():
                for height in told:
                    first.setdefault(height, row)
            for height, row in first.items():
                self.assertEqual(row_to_height(board, height), row)
                self.assertEqual(hand_of_heights(board, [height]), row)
                self.assertEqual(hand_of_heights(board, [height, height]), row)
            many = len(board[0])
            for height in itertools.product((-2, -1, 0, 1, 2), repeat=many):
                if height not in first:
                    self.assertIsNone(row_to_height(board, height))
                    self.assertIsNone(hand_of_heights(board, [height]))
            for row, told in known.items():
                self.assertEqual(hand_of_heights(board, told), row)
                self.assertEqual(hand_of_heights(board, told[::-1]), row)
                self.assertIsNone(hand_of_heights(board, told + [(2,) * many]))
            self.assertEqual(hand_of_heights(board, []), ())

    def test_by_all_rows(self):
        for board in (TWO, B2, THREE):
            first = {}
            for row in rows_up_to(len(board), 5):
                for lot in [1, 2]:
                    for told in itertools.combinations(sorted(heights(board, row)), lot):
                        first.setdefault(told, row)
            for told, row in first.items():
                self.assertEqual(hand_of_heights(board, list(told)), row)
                if len(told) == 1:
                    self.assertEqual(row_to_height(board, told[0]), row)

    def test_both_ways(self):
        self.assertEqual(self.both_ways(row_to_height, board=TWO, height=(0, -1)), (1,))
        self.assertIsNone(self.both_ways(row_to_height, board=TWO, height=(2, 0)))
        self.assertEqual(self.both_ways(hand_of_heights, board=TWO, told=[(0, -1), (-1, 0)]), (1, 0))
        self.assertIsNone(self.both_ways(hand_of_heights, board=TWO, told=[(0, -1), (0, 1)]))
        self.assertEqual(self.both_ways(hand_of_heights, board=TWO, told=[]), ())
        self.assertEqual(row_to_height(LONE, (-1,)), (0,))


class Errors(Case):
    def test_boards(self):
        one = (((0, 0), 2),)
        for wrong in WRONG_BOARDS:
            for function in (heights, shapes):
                self.fails(InvalidBoard, wrong, function, wrong, (-1,))
                self.fails(InvalidBoard, wrong, function, board=wrong, row=())
            for function in (height_of, shape_of):
                self.fails(InvalidBoard, wrong, function, wrong, one)
                self.fails(InvalidBoard, wrong, function, board=wrong, told=())
            self.fails(InvalidBoard, wrong, sum_at, wrong, (), one)
            self.fails(InvalidBoard, wrong, sum_at, board=wrong, height=(1, 2), shape=())
            self.fails(InvalidBoard, wrong, row_to_height, wrong, ())
            self.fails(InvalidBoard, wrong, row_to_height, board=wrong, height=(0, 1))
            self.fails(InvalidBoard, wrong, hand_of_heights, wrong, [()])
            self.fails(InvalidBoard, wrong, hand_of_heights, board=wrong, told=[])

    def test_rows(self):
        for row in [(-1,), (2,), (0, 1, HUGE), (1, 0, -HUGE)]:
            for board in (TWO, DOUBLE, with_marks(TWO, (1, 1))):
                for function in (heights, shapes):
                    self.fails(InvalidRow, row, function, board, row)
                    self.fails(InvalidRow, row, function, board=board, row=row)

    def test_heights(self):
        shape = (((0, 0), 2),)
        for wrong in [(), (1,), (1, 0, 0), (0,) * 5]:
            for board in (TWO, with_marks(TWO, (1, 1))):
                self.fails(InvalidHeight, wrong, sum_at, board, wrong, shape)
                self.fails(InvalidHeight, wrong, sum_at, board=board, height=wrong, shape=(((0, 0), 1),))
            for board in (TWO, DOUBLE):
                self.fails(InvalidHeight, wrong, row_to_height, board, wrong)
                self.fails(InvalidHeight, wrong, row_to_height, board=board, height=wrong)
                for told in ([wrong], [(1, 0), wrong], [wrong, (7, 7, 7)], [(0, 0), wrong, ()]):
                    self.fails(InvalidHeight, wrong, hand_of_heights, board, told)
                    self.fails(InvalidHeight, wrong, hand_of_heights, board=board, told=told)

    def test_sums(self):
        for wrong in [(((0, 0, 0, 0), 0),), (((1, 0, 0, 0), 1), ((0, 0, 0, 0), 1)), (((0, 0), 1),), (((0,) * 5, 1),),
                      (((0, 0, 0), 1),), (((0, 0, 0, 0), 1), ((0, 0, 0, 0), 1)), (((), 1),)]:
            for board in (TWO, DOUBLE, with_marks(TWO, (1, 1))):
                for function in (height_of, shape_of):
                    self.fails(InvalidSum, wrong, function, board, wrong)
                    self.fails(InvalidSum, wrong, function, board=board, told=wrong)

    def test_shapes(self):
        for wrong in [(), (((0, 0), 2),), (((0, 0), -1), ((1, 1), 1)), (((0, 1), 1),), (((1, 0), 1), ((1, 1), 1)),
                      (((-1, 0), 1), ((0, 0), 1)), (((0, 0), 1), ((1, -1), 1)), (((0, -2), 3), ((0, 0), 1)),
                      (((0, 0), 1), ((0, 0), 1)), (((0, 1), 1), ((0, 0), 1)), (((0, 0), 1), ((0, 1), 0)),
                      (((0,), 1),), (((0, 0, 0), 1),), (((0, 0, 0, 0), 1),), (((), 1),)]:
            for board in (TWO, DOUBLE, with_marks(TWO, (1, 1), (0, 3))):
                self.fails(InvalidSum, wrong, sum_at, board, (0, 0), wrong)
                self.fails(InvalidSum, wrong, sum_at, board=board, height=(3, -1), shape=wrong)

    def test_no_squares(self):
        for wrong in [[], [()], [(1, 2)], [(1,), (2,)], [(1, 2), (3,)], [(1, 2), (3, 4, 5)], [(1, 2), (3, 4), (5, 6)],
                      [(1, 2, 3), (4, 5, 6)], [(0,) * 5] * 6]:
            self.fails(InvalidNumbers, wrong, determinant, wrong)
            self.fails(InvalidNumbers, wrong, determinant, rows=wrong)

    def test_endless(self):
        for board in ENDLESS + [SLOW, units(SLOW), blocks(LONE, SLOW)]:
            many = len(board[0])
            for function, told in ((row_to_height, (0,) * many), (hand_of_heights, []), (hand_of_heights, [(1,) * many])):
                with self.assertRaises(Endless) as caught:
                    function(board, told)
                self.assertEqual(caught.exception.value, endless_row(board))
                self.assertIs(type(caught.exception.value), tuple)


if __name__ == "__main__":
    unittest.main()
