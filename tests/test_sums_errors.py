"""neverhalves/sums.py: its row of errors, and the order of it."""
import unittest

from helping import Case
from neverhalves.errors import InvalidNumber, InvalidNumbers, InvalidSum, NoDivisor
from neverhalves.sums import (
    divided, freed, least_powers, letter, ones, plus, power, put, times, value,
)

X, Y = (((1, 0), 1),), (((0, 1), 1),)
ALONE = (((1,), 1),)
WIDE = (((1, 0, 0), 1),)
HUGE = 10 ** 30

# Tuples that are no sums of any letters.
WRONG = [
    (((1, 0), 0),),
    (((0, 1), 1), ((0, 1), 1)),
    (((1, 0), 1), ((0, 1), 1)),
    (((0, 1), 1), ((1, 0), 0)),
    (((0, 1), 1), ((1,), 1)),
    (((0,), 1), ((1, 0), 1)),
    (((), 1),),
]


class Errors(Case):
    def test_wrong_sums(self):
        for wrong in WRONG:
            for function in (plus, times, divided):
                self.fails(InvalidSum, wrong, function, wrong, X)
                self.fails(InvalidSum, wrong, function, X, wrong)
                self.fails(InvalidSum, wrong, function, (), wrong)
                self.fails(InvalidSum, wrong, function, one=wrong, other=())
            for function in (least_powers, freed):
                self.fails(InvalidSum, wrong, function, wrong)
                self.fails(InvalidSum, wrong, function, one=wrong)
            self.fails(InvalidSum, wrong, power, wrong, 2)
            self.fails(InvalidSum, wrong, ones, wrong, [0])
            self.fails(InvalidSum, wrong, value, wrong, [1, 2])
            self.fails(InvalidSum, wrong, put, wrong, [X, Y])
            self.fails(InvalidSum, wrong, put, X, [X, wrong])
            self.fails(InvalidSum, wrong, put, (), [wrong])

    def test_unlike_letters(self):
        for function in (plus, times, divided):
            self.fails(InvalidSum, ALONE, function, X, ALONE)
            self.fails(InvalidSum, X, function, ALONE, X)
            self.fails(InvalidSum, WIDE, function, X, WIDE)
        self.fails(InvalidSum, ALONE, put, X, [X, ALONE])
        self.fails(InvalidSum, ALONE, put, X, [(), X, ALONE])
        self.assertEqual(put(X, [ALONE, ALONE]), ALONE)

    def test_the_first_that_is_wrong(self):
        first, second = WRONG[0], WRONG[1]
        for function in (plus, times, divided):
            self.fails(InvalidSum, first, function, first, second)
            self.fails(InvalidSum, second, function, second, first)
        self.fails(InvalidSum, first, put, first, [second])
        self.fails(InvalidSum, second, put, X, [X, second, first])
        self.fails(InvalidSum, ALONE, put, X, [X, ALONE, first])

    def test_nought_has_any_letters(self):
        self.assertEqual(plus((), WIDE), WIDE)
        self.assertEqual(times(ALONE, ()), ())
        self.assertEqual(divided((), WIDE), ())

    def test_letter(self):
        for many in (1, 2, 12):
            for at in (-1, many, many + 1, HUGE, -HUGE):
                self.fails(InvalidNumber, at, letter, at, many)
        self.fails(InvalidNumber, HUGE, letter, at=HUGE, many=2)

    def test_power(self):
        for times_wrong in (0, 13, -1, HUGE, -HUGE):
            for one in (X, ()):
                self.fails(InvalidNumber, times_wrong, power, one, times_wrong)
                self.fails(InvalidNumber, times_wrong, power, one=one, times=times_wrong)
            self.fails(InvalidSum, WRONG[0], power, WRONG[0], times_wrong)

    def test_divided(self):
        for one in (X, (), ALONE):
            self.fails(NoDivisor, (), divided, one, ())
        self.fails(InvalidSum, WRONG[2], divided, WRONG[2], ())

    def test_ones(self):
        for place in (-1, 2, 3, HUGE, -HUGE):
            self.fails(InvalidNumber, place, ones, X, [place])
            self.fails(InvalidNumber, place, ones, X, [0, 1, place, -HUGE])
            self.fails(InvalidNumber, place, ones, one=X, places=[0, place])
        for place in (-1, -HUGE):
            self.fails(InvalidNumber, place, ones, (), [5, place])
        self.fails(InvalidSum, WRONG[0], ones, WRONG[0], [-1])

    def test_value(self):
        for numbers in ([], [1], [1, 2, 3], [0, 1], [1, 0], [0], [0, 0, 0]):
            self.fails(InvalidNumbers, numbers, value, X, numbers)
            self.fails(InvalidNumbers, numbers, value, one=X, numbers=numbers)
            self.fails(InvalidSum, WRONG[3], value, WRONG[3], numbers)

    def test_put(self):
        for others in ([], [X], [X, Y, X]):
            self.fails(InvalidNumbers, others, put, X, others)
            self.fails(InvalidNumbers, others, put, one=X, others=others)
        # 0 among the others comes ahead of their number, whether or not its letter stands in the one.
        for others in ([()], [X, ()], [(), X], [(), ()], [X, Y, ()], [X, (), Y]):
            self.fails(NoDivisor, (), put, X, others)
            self.fails(NoDivisor, (), put, (), others)
            self.fails(InvalidSum, WRONG[0], put, X, others + [WRONG[0]])
            self.fails(InvalidSum, WRONG[0], put, WRONG[0], others)

    def test_errors_hold_new_lists(self):
        for function, wrong in ((value, [1]), (put, [X])):
            held = []
            for _ in range(2):
                with self.assertRaises(InvalidNumbers) as caught:
                    function(X, wrong)
                held.append(caught.exception.value)
            self.assertIsNot(held[0], held[1])
            held[0].append(5)
            self.assertEqual(len(held[1]), 1)
            self.assertEqual(len(wrong), 1)


if __name__ == "__main__":
    unittest.main()
