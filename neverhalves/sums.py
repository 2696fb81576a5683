"""Sums of some letters: tuples of tuples (powers, coefficient), the powers ascending."""
from neverhalves.errors import InvalidNumber, InvalidNumbers, InvalidSum, NoDivisor
from neverhalves.terms import (
    added, least_of, letter_of, moved, product_of, put_into, quotient_of, value_of, without_letters,
)

MOST_TIMES = 12


def is_sum(told, many):
    """True if a tuple is a sum of so many letters."""
    for at, (powers, coefficient) in enumerate(told):
        if len(powers) != many or coefficient == 0:
            return False
        if at and told[at - 1][0] >= powers:
            return False
    return True


def check_sum(told, many):
    """Refuses what is no sum of so many letters."""
    if not is_sum(told, many):
        raise InvalidSum(told)


def letters_of(sums):
    """How many letters the sums of a list have, 0 if all are 0; refuses the first that is wrong."""
    many = 0
    for told in sums:
        if told and not many:
            many = len(told[0][0])
            # There is no sum of no letters.
            if not many:
                raise InvalidSum(told)
        check_sum(told, many)
    return many


def letter(at, many):
    """The sum that is the letter with an index, of so many ones."""
    if not 0 <= at < many:
        raise InvalidNumber(at)
    return letter_of(at, many)


def plus(one, other):
    """The sum of two sums."""
    letters_of([one, other])
    return added(one, other)


def times(one, other):
    """The product of two sums."""
    many = letters_of([one, other])
    if not one or not other:
        return ()
    return product_of([(one, 1), (other, 1)], many)


def power(one, times):
    """A sum to a power from 1 to 12."""
    many = letters_of([one])
    if not 1 <= times <= MOST_TIMES:
        raise InvalidNumber(times)
    if not one:
        return ()
    return product_of([(one, times)], many)


def divided(one, other):
    """The sum that, times the other one, is the one; None if there is none."""
    letters_of([one, other])
    if not other:
        raise NoDivisor(other)
    return quotient_of(one, other)


def least_powers(one):
    """The tuple of the least power of each letter, () of 0."""
    letters_of([one])
    return least_of(one)


def freed(one):
    """The sum with each power less the least one of its letter."""
    letters_of([one])
    return moved(one, least_of(one), -1)


def ones(one, places):
    """The sum with 1 put for the letters with the indexes of a list."""
    many = letters_of([one])
    for place in places:
        if place < 0 or (one and place >= many):
            raise InvalidNumber(place)
    return without_letters(one, places)


def value(one, numbers):
    """The value (top, bottom), in lowest terms, for a list of integers but 0, one for each letter."""
    many = letters_of([one])
    if one and (len(numbers) != many or 0 in numbers):
        raise InvalidNumbers(list(numbers))
    return value_of(one, numbers)


def put(one, others):
    """What comes if a list of sums but 0 is put for the letters; None if it is no sum."""
    many = letters_of([one])
    many_then = letters_of(others)
    for other in others:
        if not other:
            raise NoDivisor(other)
    if one and len(others) != many:
        raise InvalidNumbers(list(others))
    return put_into(one, others, many_then)
