"""neverhalves/sums.py: point [6] and its section."""
import itertools
import unittest
from fractions import Fraction

from helping import Case, as_sum, multiplied, random_sum, some_numbers, worth
from neverhalves.sums import (
    divided, freed, is_sum, least_powers, letter, ones, plus, power, put, times, value,
)

ONE = (((0, 0), 1),)
X, Y = (((1, 0), 1),), (((0, 1), 1),)
BOTH = (((0, 1), 1), ((1, 0), 1))
LESS = (((0, 1), -1), ((1, 0), 1))
HUGE = 987654321098765432109876543210


def wrong_by_one(told, at):
    """A sum with one coefficient 1 more."""
    return as_sum({powers: many + (here == at) for here, (powers, many) in enumerate(told)})


class IsSum(Case):
    def test_right_ones(self):
        for many in (1, 2, 12):
            self.assertIs(is_sum((), many), True)
        self.assertIs(is_sum(X, 2), True)
        self.assertIs(is_sum((((-40,), HUGE), ((0,), -1), ((40,), 1)), 1), True)
        self.assertIs(is_sum((((0, 1), 1), ((0, 2), 1), ((1, -9), 1)), 2), True)
        self.assertIs(is_sum((((0,) * 12, 1),), 12), True)

    def test_powers_that_do_not_ascend(self):
        self.assertIs(is_sum((((1, 0), 1), ((0, 1), 1)), 2), False)
        self.assertIs(is_sum((((0, 1), 1), ((1, 0), 1), ((0, 2), 1)), 2), False)
        self.assertIs(is_sum((((0,), 1), ((-1,), 1)), 1), False)

    def test_powers_twice(self):
        self.assertIs(is_sum((((1, 0), 1), ((1, 0), 1)), 2), False)
        self.assertIs(is_sum((((1, 0), 1), ((1, 0), 2)), 2), False)

    def test_coefficient_nought(self):
        self.assertIs(is_sum((((1, 0), 0),), 2), False)
        self.assertIs(is_sum((((0, 1), 1), ((1, 0), 0)), 2), False)

    def test_number_of_letters(self):
        for many in (1, 3):
            self.assertIs(is_sum(X, many), False)
        self.assertIs(is_sum((((0,), 1), ((1, 0), 1)), 1), False)
        self.assertIs(is_sum((((0,), 1), ((1, 0), 1)), 2), False)
        self.assertIs(is_sum((((0, 0), 1), ((1,), 1)), 2), False)
        self.assertIs(is_sum((((), 1),), 1), False)

    def test_both_ways(self):
        self.assertIs(self.both_ways(is_sum, told=X, many=2), True)


class Sums(Case):
    def check_right(self, told, many):
        self.assertIs(is_sum(told, many), True)
        self.assertIs(type(told), tuple)
        return told

    def test_letter(self):
        self.assertEqual(letter(0, 1), (((1,), 1),))
        self.assertEqual(letter(2, 4), (((0, 0, 1, 0), 1),))
        self.assertEqual(letter(11, 12), (((0,) * 11 + (1,), 1),))
        self.assertEqual(self.both_ways(letter, at=1, many=2), Y)

    def test_plus(self):
        self.assertEqual(plus(X, Y), BOTH)
        self.assertEqual(plus(Y, X), BOTH)
        self.assertEqual(plus(X, X), (((1, 0), 2),))
        self.assertEqual(plus(BOTH, LESS), (((1, 0), 2),))
        self.assertEqual(plus(X, (((1, 0), -1),)), ())
        self.assertEqual(self.both_ways(plus, one=BOTH, other=(((0, 1), -1), ((3, -2), HUGE))),
                         (((1, 0), 1), ((3, -2), HUGE)))

    def test_plus_nought(self):
        self.assertEqual(plus((), X), X)
        self.assertEqual(plus(LESS, ()), LESS)
        self.assertEqual(plus((), ()), ())

    def test_times(self):
        self.assertEqual(times(BOTH, LESS), (((0, 2), -1), ((2, 0), 1)))
        self.assertEqual(times((((-3, 2), HUGE),), (((3, -3), -HUGE),)), (((0, -1), -HUGE * HUGE),))
        self.assertEqual(self.both_ways(times, one=X, other=Y), (((1, 1), 1),))
        for one in (BOTH, X):
            self.assertEqual(times(one, ()), ())
            self.assertEqual(times((), one), ())
        self.assertEqual(times((), ()), ())

    def test_times_plus_by_random_sums(self):
        for seed in range(40):
            letters = 1 + seed % 12
            one = random_sum(seed, 1 + seed % 9, letters, 40, 30)
            other = random_sum(seed + 100, 1 + seed % 7, letters, 40, 30)
            self.assertEqual(self.check_right(times(one, other), letters), multiplied(one, other))
            numbers = some_numbers(letters, seed)
            total = self.check_right(plus(one, other), letters)
            self.assertEqual(worth(total, numbers), worth(one, numbers) + worth(other, numbers))

    def test_times_of_terms_that_cancel(self):
        one = random_sum(1, 6, 3, 2, 1)
        other = tuple((powers, -many if at % 2 else many) for at, (powers, many) in enumerate(one))
        self.assertEqual(times(one, other), multiplied(one, other))
        self.assertEqual(times((((0,), 1), ((1,), 1)), (((0,), 1), ((1,), -1), ((2,), 1))), (((0,), 1), ((3,), 1)))

    def test_power(self):
        self.assertEqual(power(BOTH, 1), BOTH)
        self.assertEqual(self.both_ways(power, one=BOTH, times=2), (((0, 2), 1), ((1, 1), 2), ((2, 0), 1)))
        self.assertEqual(power((((-1, 2), -3),), 12), (((-12, 24), 3 ** 12),))
        self.assertEqual(power((), 1), ())
        self.assertEqual(power((), 12), ())
        for seed in range(12):
            one = random_sum(seed, 3, 2, 4, 5)
            wanted = ONE
            for many in range(1, 13):
                wanted = multiplied(wanted, one)
                self.assertEqual(self.check_right(power(one, many), 2), wanted)

    def test_least_powers_and_freed(self):
        told = (((-3, 4, 0), 2), ((1, -1, 0), HUGE), ((2, 0, 5), -1))
        self.assertEqual(self.both_ways(least_powers, one=told), (-3, -1, 0))
        self.assertEqual(self.both_ways(freed, one=told), (((0, 5, 0), 2), ((4, 0, 0), HUGE), ((5, 1, 5), -1)))
        self.assertEqual(freed((((3, -2), 7),)), (((0, 0), 7),))
        self.assertEqual(least_powers((((3, 2), 7),)), (3, 2))
        self.assertEqual(least_powers(()), ())
        self.assertEqual(freed(()), ())

    def test_ones(self):
        told = (((0, 1, 2), 1), ((0, 3, 2), 1), ((4, 1, 2), -1))
        self.assertEqual(self.both_ways(ones, one=told, places=[1]), (((0, 0, 2), 2), ((4, 0, 2), -1)))
        self.assertEqual(ones(told, [0]), (((0, 3, 2), 1),))
        self.assertEqual(ones(told, [0, 0, 2, 0]), (((0, 3, 0), 1),))
        self.assertEqual(ones(told, [2, 1, 0]), (((0, 0, 0), 1),))
        self.assertEqual(ones(LESS, [0, 1]), ())
        self.assertEqual(ones(told, []), told)
        self.assertEqual(ones((((1, 0), 1), ((2, -1), 1)), [0]), (((0, -1), 1), ((0, 0), 1)))
        self.assertEqual(ones((), [0, 99]), ())
        self.assertEqual(ones((), []), ())

    def test_value(self):
        told = (((-1, 0), 1), ((-1, 1), 1))
        self.assertEqual(self.both_ways(value, one=told, numbers=[2, 3]), (2, 1))
        self.assertEqual(value(told, [2, 2]), (3, 2))
        self.assertEqual(value(told, [-2, 2]), (-3, 2))
        self.assertEqual(value(told, [5, -1]), (0, 1))
        self.assertEqual(value((((2, -3), -5),), [-3, -2]), (45, 8))
        self.assertEqual(value((((-1,), 6),), [-4]), (-3, 2))
        self.assertEqual(value((((3, 1), 2),), [HUGE, -1]), (-2 * HUGE ** 3, 1))

    def test_value_of_nought(self):
        for numbers in ([], [0], [1, 2], [-1, 0, 5]):
            self.assertEqual(value((), numbers), (0, 1))

    def test_value_by_fractions(self):
        for seed in range(40):
            letters = 1 + seed % 12
            told = random_sum(seed, 1 + seed % 11, letters, 6, 30)
            numbers = some_numbers(letters, seed + 7)
            top, bottom = value(told, numbers)
            wanted = worth(told, numbers)
            self.assertEqual((top, bottom), (wanted.numerator, wanted.denominator))


class Divided(Case):
    def test_there_and_back(self):
        for seed in range(60):
            letters = 1 + seed % 12
            one = random_sum(seed, 1 + seed % 8, letters, 12, 30)
            other = random_sum(seed + 500, 1 + seed % 5, letters, 12, 30)
            product = multiplied(one, other)
            self.assertEqual(divided(product, other), one)
            self.assertEqual(divided(product, one), other)

    def test_one_coefficient_wrong(self):
        for seed in range(30):
            letters = 1 + seed % 3
            one = random_sum(seed, 6, letters, 9, 3)
            other = random_sum(seed + 500, 2 + seed % 4, letters, 9, 3)
            product = multiplied(one, other)
            for at in range(len(product)):
                self.assertIsNone(divided(wrong_by_one(product, at), other))

    def test_coefficients_that_leave_a_rest(self):
        self.assertIsNone(divided((((1, 0), 3),), (((0, 0), 2),)))
        self.assertIsNone(divided(BOTH, (((0, 0), 2),)))
        self.assertIsNone(divided((((0, 1), 2), ((1, 0), 3)), (((0, 0), -2),)))
        twice = times(BOTH, (((0, 0), 2),))
        self.assertIsNone(divided(times(BOTH, LESS), twice))
        self.assertEqual(divided(times(twice, LESS), twice), LESS)
        self.assertIsNone(divided((((0,), 1), ((1,), 3), ((2,), 2)), (((0,), 2), ((1,), 2))))
        self.assertIsNone(divided((((1,), 3), ((2,), 3)), (((0,), 2), ((1,), 2))))
        self.assertIsNone(divided((((0,), 2), ((1,), 3), ((2,), 1)), (((0,), 2), ((1,), 2))))

    def test_divisor_of_one_term(self):
        self.assertEqual(divided(BOTH, X), (((-1, 1), 1), ((0, 0), 1)))
        self.assertEqual(divided((((0, 1), 6), ((1, 0), -9)), (((2, -5), -3),)), (((-2, 6), -2), ((-1, 5), 3)))

    def test_divisor_with_more_terms_or_other_powers(self):
        self.assertIsNone(divided(X, BOTH))
        self.assertIsNone(divided(ONE, plus(ONE, X)))
        self.assertIsNone(divided(BOTH, plus(BOTH, ONE)))
        self.assertIsNone(divided(plus(power(X, 3), power(Y, 3)), LESS))
        self.assertEqual(divided(plus(power(X, 3), power(Y, 3)), BOTH),
                         (((0, 2), 1), ((1, 1), -1), ((2, 0), 1)))

    def test_powers_below_nought(self):
        one = (((-7, 3), 2), ((-2, -5), 1), ((0, 0), -1))
        other = (((-4, -4), 1), ((-3, 9), 5))
        self.assertEqual(divided(multiplied(one, other), other), one)
        self.assertEqual(divided((((-1, 0), 1), ((-1, 1), 1)), plus(ONE, Y)), (((-1, 0), 1),))
        self.assertEqual(divided(plus(ONE, Y), (((2, 0), 1), ((2, 1), 1))), (((-2, 0), 1),))

    def test_nought_and_itself(self):
        for other in (X, BOTH, LESS):
            self.assertEqual(divided((), other), ())
            self.assertEqual(divided(other, other), ONE)
            self.assertEqual(divided(times(other, (((0, 0), -1),)), other), (((0, 0), -1),))
        self.assertEqual(self.both_ways(divided, one=times(BOTH, LESS), other=LESS), BOTH)
        self.assertIsNone(self.both_ways(divided, one=X, other=LESS))

    def test_no_quotient_though_parts_divide(self):
        x_more = (((0, 0), 1), ((1, 0), 1))
        y_more = (((0, 0), 10 ** 29), ((0, 1), 1))
        one = multiplied(x_more, random_sum(3, 40, 2, 20, 9))
        self.assertIsNone(divided(one, multiplied(x_more, y_more)))
        self.assertIsNone(divided(multiplied(x_more, ONE), multiplied(x_more, x_more)))

    def test_a_quotient_modulo_nothing_but_the_program_s_prime(self):
        # What divides but for multiples of a great prime does not divide.
        prime = 2 ** 61 - 1
        one = as_sum({(2,): 1, (1,): 2, (0,): 1 + prime})
        self.assertIsNone(divided(one, (((0,), 1), ((1,), 1))))
        self.assertEqual(divided((((0,), prime), ((1,), prime)), (((0,), 1), ((1,), 1))), (((0,), prime),))
        self.assertEqual(divided((((0,), 1), ((1,), 1 + prime), ((2,), prime)), (((0,), 1), ((1,), prime))),
                         (((0,), 1), ((1,), 1)))


class Put(Case):
    def test_plain_ones(self):
        self.assertEqual(self.both_ways(put, one=BOTH, others=[X, LESS]), (((0, 1), -1), ((1, 0), 2)))
        self.assertEqual(put(times(X, Y), [BOTH, LESS]), times(BOTH, LESS))
        self.assertEqual(put((((0, 0), 7),), [BOTH, LESS]), (((0, 0), 7),))
        self.assertEqual(put(LESS, [BOTH, BOTH]), ())

    def test_other_numbers_of_letters(self):
        one = (((2,), 3),)
        self.assertEqual(put(one, [letter(2, 5)]), (((0, 0, 4 - 2, 0, 0), 3),))
        self.assertEqual(put((((1, 0, 1), 1),), [(((1,), 1),), (((9,), 1),), (((2,), 5),)]), (((3,), 5),))

    def test_parts_that_are_none(self):
        told = (((-1, 0), 1), ((-1, 1), 1))
        self.assertEqual(put(told, [plus(ONE, Y), Y]), ONE)
        self.assertIsNone(put((((-1, 0), 1),), [plus(ONE, Y), Y]))
        self.assertEqual(put((((-1, 0), 1), ((-1, 1), 1), ((0, -1), 1)), [plus(ONE, Y), X]), None)
        self.assertEqual(put((((-1, 1), 1),), [BOTH, times(BOTH, LESS)]), LESS)
        self.assertEqual(put((((-2, 2), 1), ((0, 0), 1)), [BOTH, times(BOTH, LESS)]), plus(times(LESS, LESS), ONE))
        self.assertIsNone(put((((-2, 1), 1),), [BOTH, times(BOTH, LESS)]))

    def test_single_terms(self):
        self.assertEqual(put((((-1, 0), 6),), [(((1, 0), 2),), Y]), (((-1, 0), 3),))
        self.assertIsNone(put((((-1, 0), 3),), [(((1, 0), 2),), Y]))
        self.assertEqual(put((((-1, 0), 1), ((-1, 1), 1)), [(((1, 0), 2),), ONE]), (((-1, 0), 1),))
        self.assertEqual(put((((-2, 2), 1),), [(((1, 0), 2),), (((0, 1), 6),)]), (((-2, 2), 9),))
        self.assertIsNone(put((((-2, 1), 1),), [(((1, 0), 2),), (((0, 1), 2),)]))
        self.assertEqual(put((((-3, 4), 1),), [(((1, -1), -1),), (((1, 1), 1),)]), (((1, 7), -1),))

    def test_of_nought(self):
        self.assertEqual(put((), [X]), ())
        self.assertEqual(put((), [X, Y, BOTH]), ())
        self.assertEqual(put((), []), ())

    def test_by_values(self):
        for seed in range(40):
            letters, later = 1 + seed % 4, 1 + seed % 3
            one = random_sum(seed, 1 + seed % 6, letters, 2, 6)
            others = [random_sum(seed * 9 + at, 1 + (seed + at) % 3, later, 2, 3) for at in range(letters)]
            bottom = (((0,) * letters, 1),)
            for at in range(letters):
                bottom = multiplied(bottom, power(letter(at, letters), 2))
            told = put(multiplied(one, bottom), others)
            numbers = some_numbers(later, seed)
            wanted = worth(multiplied(one, bottom), [worth(other, numbers) for other in others])
            self.assertEqual(worth(told, numbers), wanted)
            self.assertIs(is_sum(told, later), True)
            # What is no sum has a value, too, but never for all numbers the one of a sum.
            whole = put(one, others)
            if whole is not None:
                self.assertEqual(worth(whole, numbers), worth(one, [worth(other, numbers) for other in others]))

    def test_no_power_is_left_out(self):
        # 1 / (x + y) to each power, times just as much, and once too little.
        for many, least in itertools.product(range(1, 5), range(1, 5)):
            one = (((-least, many), 1),)
            told = put(one, [BOTH, power(BOTH, 1)])
            self.assertEqual(told is None, many < least)
            if many >= least:
                self.assertEqual(worth(told, [2, 3]), Fraction(5) ** (many - least))


if __name__ == "__main__":
    unittest.main()
