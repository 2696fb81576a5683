"""What the tests share: boards, plain ways to work things out again, and a way to ask for errors."""
import itertools
import random
import time
import unittest
from fractions import Fraction

# Far more than any call at the bounds takes, and far less than one that grows without an end.
SECONDS = 60

TWO = ((0, 1), (-1, 0))
THREE = ((0, 1, 0), (-1, 0, 1), (0, -1, 0))
LONE = ((0,),)
APART = ((0, 0), (0, 0))
A4 = ((0, 1, 0, 0), (-1, 0, 1, 0), (0, -1, 0, 1), (0, 0, -1, 0))
B2 = ((0, 2), (-1, 0))
B3 = ((0, 1, 0), (-1, 0, 1), (0, -2, 0))
B4 = ((0, 1, 0, 0), (-1, 0, 1, 0), (0, -1, 0, 1), (0, 0, -2, 0))
C3 = ((0, 1, 0), (-1, 0, 2), (0, -1, 0))
C4 = ((0, 1, 0, 0), (-1, 0, 1, 0), (0, -1, 0, 2), (0, 0, -1, 0))
D4 = ((0, 1, 1, 1), (-1, 0, 0, 0), (-1, 0, 0, 0), (-1, 0, 0, 0))
F4 = ((0, 1, 0, 0), (-1, 0, -1, 0), (0, 2, 0, 1), (0, 0, -1, 0))
G2 = ((0, 1), (-3, 0))
DOUBLE = ((0, 2), (-2, 0))
MARKOV = ((0, 2, -2), (-2, 0, 2), (2, -2, 0))
SQUARE = ((0, 1, 0, 1), (-1, 0, 1, 0), (0, -1, 0, 1), (-1, 0, -1, 0))

# The rows of eight marks, with entries to the bounds.
MARKS = [(4, -4, 4, -4), (-1, 2, -3, 4), (0, 0, 0, 0), (4, 4, 4, 4), (-4, -4, -4, -4), (1, 0, -1, 0), (3, 1, 2, -2),
         (0, -3, 0, 1)]

# By the document's types: boards, how many hands, how many sums.
FINITE = [
    (LONE, ("A", 1), 2, 2), (TWO, ("A", 2), 5, 5), (THREE, ("A", 3), 14, 9), (A4, ("A", 4), 42, 14),
    (B2, ("B", 2), 6, 6), (B3, ("B", 3), 20, 12), (B4, ("B", 4), 70, 20),
    (C3, ("C", 3), 20, 12), (C4, ("C", 4), 70, 20), (D4, ("D", 4), 50, 16),
    (F4, ("F", 4), 105, 28), (G2, ("G", 2), 8, 8),
]
ENDLESS = [DOUBLE, ((0, 1), (-4, 0)), ((0, -4), (1, 0)), ((0, 4), (-4, 0)), MARKOV, SQUARE]


def with_marks(board, *rows):
    """A board with further marks."""
    return board + tuple(rows)


def blocks(*tables):
    """Tables, one beside the other."""
    many = sum(len(rows) for rows in tables)
    out = []
    for rows in tables:
        ahead = len(out)
        for row in rows:
            out.append((0,) * ahead + row + (0,) * (many - ahead - len(row)))
    return tuple(out)


def units(board):
    """The table of a board, with a mark for each place."""
    many = len(board[0])
    return board[:many] + tuple(tuple(int(i == j) for j in range(many)) for i in range(many))


def swap_plainly(board, place):
    """The rule of swaps by signs: an entry moves if those before and behind it have one sign."""
    out = [list(row) for row in board]
    for i, row in enumerate(board):
        for j in range(len(row)):
            if i == place or j == place:
                out[i][j] = -row[j]
            elif row[place] * board[place][j] > 0:
                out[i][j] = row[j] + abs(row[place]) * board[place][j]
    return tuple(tuple(row) for row in out)


def is_board_plainly(rows, most):
    """Whether weights up to a number go round, all tried."""
    many = len(rows[0])
    return any(
        all(w[i] * rows[i][j] == -w[j] * rows[j][i] for i in range(many) for j in range(many))
        for w in itertools.product(range(1, most + 1), repeat=many)
    )


def worth(told, numbers):
    """The value of a sum as a fraction."""
    total = Fraction(0)
    for powers, coefficient in told:
        term = Fraction(coefficient)
        for number, power in zip(numbers, powers):
            term *= Fraction(number) ** power
        total += term
    return total


def swap_numbers(numbers, board, place):
    """The numbers of the places and the marks behind a swap, as fractions."""
    above, below = Fraction(1), Fraction(1)
    for number, row in zip(numbers, board):
        if row[place] > 0:
            above *= Fraction(number) ** row[place]
        else:
            below *= Fraction(number) ** -row[place]
    out = list(numbers)
    out[place] = (above + below) / numbers[place]
    return out, swap_plainly(board, place)


def numbers_behind(board, row, numbers):
    """The values of the sums of the hand behind a row, worked out in numbers alone."""
    for place in row:
        numbers, board = swap_numbers(numbers, board, place)
    return numbers[:len(board[0])]


def some_numbers(many, seed):
    """Numbers that are not likely to make unlike sums alike."""
    chance = random.Random(seed)
    return [chance.choice((-1, 1)) * chance.randint(2, 10 ** 6) for _ in range(many)]


def rows_up_to(places, length):
    """All rows of at most so many places, shorter ones first, then ascending."""
    for many in range(length + 1):
        yield from itertools.product(range(places), repeat=many)


def as_sum(terms):
    """The sum of a dict of coefficients by powers."""
    return tuple(sorted((powers, many) for powers, many in terms.items() if many))


def multiplied(one, other):
    """The product of two sums, term by term."""
    terms = {}
    for powers, many in one:
        for further, times in other:
            key = tuple(a + b for a, b in zip(powers, further))
            terms[key] = terms.get(key, 0) + many * times
    return as_sum(terms)


def random_sum(seed, terms, letters, reach, digits):
    """A sum of so many terms, powers from -reach to reach."""
    chance = random.Random(seed)
    found = {}
    while len(found) < terms:
        powers = tuple(chance.randint(-reach, reach) for _ in range(letters))
        found[powers] = chance.choice((-1, 1)) * chance.randint(1, 10 ** digits - 1)
    return as_sum(found)


def letters_added(places, letters, plain=0):
    """The sum of some letters, and of a number but 0."""
    terms = {tuple(int(at == place) for at in range(letters)): 1 for place in places}
    if plain:
        terms[(0,) * letters] = plain
    return as_sum(terms)


def random_row(seed, places, length):
    """A row without a place twice side by side, where there are two places."""
    chance = random.Random(seed)
    row = []
    while len(row) < length:
        place = chance.randrange(places)
        if places == 1 or not row or row[-1] != place:
            row.append(place)
    return tuple(row)


def frozen(told):
    """Lists and what is in them as tuples, to see whether anything was changed."""
    if isinstance(told, (list, tuple)):
        return (isinstance(told, list), tuple(frozen(item) for item in told))
    return told


class Case(unittest.TestCase):
    """A test case that can ask for errors of the program."""

    def fails(self, error, wrong, function, *told, **named):
        """The call raises exactly this error, and the value is the wrong thing itself, a list a new one."""
        before = frozen([told, list(named.values())])
        with self.assertRaises(ValueError) as caught:
            function(*told, **named)
        self.assertIs(type(caught.exception), error)
        held = caught.exception.value
        self.assertEqual(held, wrong)
        self.assertIs(type(held), type(wrong))
        if isinstance(wrong, list):
            self.assertIsNot(held, wrong)
        else:
            self.assertIs(held, wrong)
        self.assertEqual(frozen([told, list(named.values())]), before)

    def both_ways(self, function, **named):
        """What a call tells, by position and by name, the same both times, its lists new ones."""
        before = frozen(list(named.values()))
        first = function(*named.values())
        second = function(**named)
        self.assertEqual(frozen(first), frozen(second))
        if isinstance(first, list):
            self.assertIsNot(first, second)
            first.append("more")
            self.assertEqual(frozen(function(**named)), frozen(second))
        self.assertEqual(frozen(list(named.values())), before)
        return second


class Timed(Case):
    """A test case each test of which has to come to an end."""

    def setUp(self):
        self.begun = time.monotonic()

    def tearDown(self):
        self.assertLess(time.monotonic() - self.begun, SECONDS)
