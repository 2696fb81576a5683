"""neverhalves/polygons.py: its section, and what [9] promises of cuts and boards."""
import itertools
import random
import unittest

from helping import Case, multiplied, worth
from neverhalves.boards import swapped
from neverhalves.ends import types
from neverhalves.errors import InvalidCut, InvalidDiagonal, InvalidNumber, InvalidPlace
from neverhalves.hands import hand_by
from neverhalves.polygons import (
    board_of, cuts, diagonal_sum, exchanged, is_cut, lengths, row_to,
)
from neverhalves.sums import letter, plus

HUGE = 10 ** 30
CORNERS = (4, 5, 6, 7)
FAN = ((0, 2), (0, 3))
WRONG_CORNERS = (3, 8, 0, -5, 12, HUGE, -HUGE)
WRONG_CUTS = [
    (), ((0, 2),), ((0, 2), (0, 3), (1, 3)), ((0, 2), (3, 0)), ((2, 0), (0, 3)), ((0, 2), (0, 2)), ((0, 2), (0, 1)),
    ((0, 2), (0, 4)), ((0, 2), (2, 5)), ((-1, 2), (0, 2)), ((0, 2), (0, HUGE)), ((-HUGE, 3), (0, 3)),
    ((0, 2), (1, 3)), ((1, 4), (0, 3)), ((0, 2), (2, 2)), ((0, 0), (0, 2)),
]


def is_side(corners, line):
    """Whether two corners, the lesser one first, are side by side."""
    return (line[1] - line[0]) % corners in (1, corners - 1)


def lines(corners):
    """All diagonals and sides."""
    return [(i, k) for i in range(corners) for k in range(i + 1, corners)]


def between(corners, start, end):
    """The corners behind one and ahead of another one, round about."""
    out = []
    at = (start + 1) % corners
    while at != end:
        out.append(at)
        at = (at + 1) % corners
    return out


def cross(corners, one, other):
    """Whether the ends of one line lie on both sides of another one."""
    inside, outside = between(corners, *other), between(corners, other[1], other[0])
    return (one[0] in inside and one[1] in outside) or (one[1] in inside and one[0] in outside)


def all_cuts(corners):
    """All cuts that ascend, by trying all lots of diagonals."""
    diagonals = [line for line in lines(corners) if not is_side(corners, line)]
    return [lot for lot in itertools.combinations(diagonals, corners - 3)
            if not any(cross(corners, one, other) for one, other in itertools.combinations(lot, 2))]


def some_cuts(corners):
    """All cuts, each in two orders."""
    chance = random.Random(corners)
    for cut in all_cuts(corners):
        yield cut
        yield tuple(chance.sample(cut, len(cut)))


def board_plainly(corners, cut, sides):
    """The board as the section tells it, triangle by triangle."""
    labels = list(cut) + ([line for line in lines(corners) if is_side(corners, line)] if sides else [])
    rows = [[0] * len(cut) for _ in labels]
    everything = list(cut) + [line for line in lines(corners) if is_side(corners, line)]
    for p, q, r in itertools.combinations(range(corners), 3):
        if (p, q) in everything and (q, r) in everything and (p, r) in everything:
            for ahead, behind in [((p, q), (q, r)), ((q, r), (p, r)), ((p, r), (p, q))]:
                for e, f, sign in [(ahead, behind, 1), (behind, ahead, -1)]:
                    if e in labels and f in cut:
                        rows[labels.index(e)][cut.index(f)] += sign
    return tuple(tuple(row) for row in rows)


class Cuts(Case):
    def test_how_many(self):
        self.assertEqual([len(cuts(corners)) for corners in CORNERS], [2, 5, 14, 42])
        for corners in CORNERS:
            found = self.both_ways(cuts, corners=corners)
            self.assertEqual(found, all_cuts(corners))
            self.assertEqual(found, sorted(found))
            for cut in found:
                self.assertEqual(list(cut), sorted(cut))
                self.assertIs(type(cut), tuple)
        self.assertEqual(cuts(4), [((0, 2),), ((1, 3),)])

    def test_right_ones(self):
        for corners in CORNERS:
            for cut in all_cuts(corners):
                for order in itertools.permutations(cut):
                    self.assertIs(is_cut(corners, order), True)
        self.assertIs(self.both_ways(is_cut, corners=5, told=FAN), True)

    def test_each_tuple_of_two(self):
        known = {frozenset(cut) for cut in all_cuts(5)}
        pairs = list(itertools.product(range(-1, 6), repeat=2))
        for told in itertools.product(pairs, repeat=2):
            self.assertIs(is_cut(5, told), frozenset(told) in known and told[0] != told[1])
        for told in pairs:
            self.assertIs(is_cut(4, (told,)), told in ((0, 2), (1, 3)))

    def test_wrong_ones(self):
        for wrong in WRONG_CUTS:
            self.assertIs(self.both_ways(is_cut, corners=5, told=wrong), False)
        for corners in CORNERS:
            cut = all_cuts(corners)[-1]
            for at, line in enumerate(cut):
                self.assertIs(is_cut(corners, cut[:at] + cut[at + 1:]), False)
                self.assertIs(is_cut(corners, cut + (line,)), False)
                self.assertIs(is_cut(corners, cut[:at] + (line[::-1],) + cut[at + 1:]), False)
                for other in [(0, 1), (0, corners - 1), (-1, 1), (1, corners), (corners, corners + 2), (0, HUGE),
                              (-HUGE, -1), cut[at - 1] if corners > 4 else (2, 2)]:
                    self.assertIs(is_cut(corners, cut[:at] + (other,) + cut[at + 1:]), False)
            for more in lines(corners):
                self.assertIs(is_cut(corners, cut + (more,)), False)
            for other in CORNERS:
                if other != corners:
                    self.assertIs(is_cut(other, cut), False)

    def test_crossing_ones(self):
        for corners in CORNERS:
            known = {frozenset(cut) for cut in all_cuts(corners)}
            diagonals = [line for line in lines(corners) if not is_side(corners, line)]
            for lot in itertools.combinations(diagonals, corners - 3):
                self.assertIs(is_cut(corners, lot), frozenset(lot) in known)
                self.assertIs(is_cut(corners, lot[::-1]), frozenset(lot) in known)


class Exchanged(Case):
    def test_in_its_place(self):
        self.assertEqual(self.both_ways(exchanged, corners=5, cut=FAN, place=0), ((1, 3), (0, 3)))
        self.assertEqual(exchanged(4, ((0, 2),), 0), ((1, 3),))
        self.assertEqual(exchanged(7, ((2, 6), (0, 2), (2, 4), (4, 6)), 0), ((0, 4), (0, 2), (2, 4), (4, 6)))
        for corners in CORNERS:
            known = {frozenset(cut) for cut in all_cuts(corners)}
            for cut in some_cuts(corners):
                for place in range(len(cut)):
                    then = exchanged(corners, cut, place)
                    self.assertIn(frozenset(then), known)
                    self.assertNotEqual(then[place], cut[place])
                    self.assertIs(cross(corners, then[place], cut[place]), True)
                    self.assertEqual(then[:place] + then[place + 1:], cut[:place] + cut[place + 1:])
                    self.assertEqual(exchanged(corners, then, place), cut)

    def test_is_a_swap_of_the_board(self):
        for corners in CORNERS:
            for cut in some_cuts(corners):
                for sides in (False, True):
                    board = board_of(corners, cut, sides)
                    for place in range(len(cut)):
                        then = board_of(corners, exchanged(corners, cut, place), sides)
                        self.assertEqual(then, swapped(board, place))


class Boards(Case):
    def test_plainly(self):
        self.assertEqual(self.both_ways(board_of, corners=5, cut=FAN, sides=False), ((0, -1), (1, 0)))
        self.assertEqual(self.both_ways(board_of, corners=4, cut=((0, 2),), sides=True),
                         ((0,), (-1,), (1,), (1,), (-1,)))
        self.assertEqual(board_of(4, ((1, 3),), True), ((0,), (1,), (-1,), (-1,), (1,)))
        for corners in CORNERS:
            for cut in some_cuts(corners):
                for sides in (False, True):
                    self.assertEqual(board_of(corners, cut, sides), board_plainly(corners, cut, sides))

    def test_its_type(self):
        for corners in CORNERS:
            for cut in some_cuts(corners):
                self.assertEqual(types(board_of(corners, cut, False)), [("A", corners - 3)])
                self.assertEqual(len(board_of(corners, cut, True)), 2 * corners - 3)


class Sums(Case):
    def test_the_first_letters(self):
        for corners in CORNERS:
            sides = [line for line in lines(corners) if is_side(corners, line)]
            for cut in some_cuts(corners):
                many = len(cut)
                for at, line in enumerate(cut):
                    self.assertEqual(diagonal_sum(corners, cut, line, False), letter(at, many))
                    self.assertEqual(diagonal_sum(corners, cut, line, True), letter(at, many + corners))
                for at, line in enumerate(sides):
                    self.assertEqual(diagonal_sum(corners, cut, line, False), (((0,) * many, 1),))
                    self.assertEqual(diagonal_sum(corners, cut, line, True), letter(many + at, many + corners))
        told = self.both_ways(diagonal_sum, corners=5, cut=FAN, told=(1, 3), sides=False)
        self.assertEqual(told, (((-1, 0), 1), ((-1, 1), 1)))

    def test_four_corners(self):
        for corners in CORNERS:
            for cut in list(some_cuts(corners))[::1 + corners // 7 * 4]:
                for sides in (False, True):
                    told = {line: diagonal_sum(corners, cut, line, sides) for line in lines(corners)}
                    for p, q, r, s in itertools.combinations(range(corners), 4):
                        self.assertEqual(
                            multiplied(told[p, r], told[q, s]),
                            plus(multiplied(told[p, q], told[r, s]), multiplied(told[q, r], told[p, s])),
                        )

    def test_behind_exchanges(self):
        chance = random.Random(3)
        for corners in CORNERS:
            for cut in some_cuts(corners):
                row = tuple(chance.randrange(len(cut)) for _ in range(chance.randint(1, 8)))
                then = cut
                for place in row:
                    then = exchanged(corners, then, place)
                for sides in (False, True):
                    sums = hand_by(board_of(corners, cut, sides), row)[0]
                    self.assertEqual(tuple(diagonal_sum(corners, cut, line, sides) for line in then), sums)


class Lengths(Case):
    def test_the_fan(self):
        self.assertEqual(lengths(5, FAN), [[0, 1, 1, 1, 1], [1, 0, 1, 2, 3], [1, 1, 0, 1, 2], [1, 2, 1, 0, 1],
                                           [1, 3, 2, 1, 0]])

    def test_values_at_ones(self):
        for corners in CORNERS:
            for cut in some_cuts(corners):
                table = lengths(corners, cut)
                self.assertEqual([len(row) for row in table], [corners] * corners)
                for i, k in itertools.product(range(corners), repeat=2):
                    self.assertEqual(table[i][k], table[k][i])
                    if i == k:
                        self.assertEqual(table[i][k], 0)
                    elif is_side(corners, (min(i, k), max(i, k))):
                        self.assertEqual(table[i][k], 1)
                    elif i < k:
                        told = diagonal_sum(corners, cut, (i, k), True)
                        self.assertEqual(table[i][k], worth(told, [1] * (2 * corners - 3)))

    def test_new_lists(self):
        table = self.both_ways(lengths, corners=5, cut=FAN)
        self.assertEqual(len({id(row) for row in table}), 5)
        for row in table:
            row.append(7)
        self.assertEqual(lengths(5, FAN)[4], [1, 3, 2, 1, 0])


class RowTo(Case):
    def test_first_of_all_rows(self):
        chance = random.Random(5)
        for corners in (4, 5, 6):
            for cut in some_cuts(corners):
                first = {}
                for length in range(5):
                    for row in itertools.product(range(len(cut)), repeat=length):
                        now = cut
                        for place in row:
                            now = exchanged(corners, now, place)
                        first.setdefault(frozenset(now), row)
                for other in all_cuts(corners):
                    told = tuple(chance.sample(other, len(other)))
                    self.assertEqual(row_to(corners, cut, told), first[frozenset(other)])

    def test_seven_corners(self):
        cut = ((0, 2), (2, 4), (4, 6), (0, 4))
        first = {}
        for length in range(5):
            for row in itertools.product(range(4), repeat=length):
                now = cut
                for place in row:
                    now = exchanged(7, now, place)
                first.setdefault(frozenset(now), row)
        for other in all_cuts(7):
            row = row_to(7, cut, other)
            if frozenset(other) in first:
                self.assertEqual(row, first[frozenset(other)])
            else:
                self.assertGreater(len(row), 4)
        far = max((row_to(7, cut, other) for cut in all_cuts(7) for other in all_cuts(7)), key=len)
        self.assertEqual(len(far), 5)

    def test_the_same_diagonals(self):
        for corners in CORNERS:
            for cut in all_cuts(corners):
                for order in itertools.permutations(cut):
                    self.assertEqual(row_to(corners, cut, order), ())
                    self.assertEqual(row_to(corners, order, cut), ())
        self.assertEqual(self.both_ways(row_to, corners=5, cut=FAN, other=((0, 3), (0, 2))), ())
        self.assertEqual(self.both_ways(row_to, corners=5, cut=FAN, other=((1, 4), (1, 3))), (0, 1))


class Errors(Case):
    def test_corners(self):
        bad = ((5, 5),)
        for wrong in WRONG_CORNERS:
            self.fails(InvalidNumber, wrong, cuts, wrong)
            self.fails(InvalidNumber, wrong, cuts, corners=wrong)
            for cut in (FAN, bad, (), ((0, 2),)):
                self.fails(InvalidNumber, wrong, is_cut, wrong, cut)
                self.fails(InvalidNumber, wrong, exchanged, wrong, cut, -1)
                self.fails(InvalidNumber, wrong, board_of, wrong, cut, True)
                self.fails(InvalidNumber, wrong, diagonal_sum, wrong, cut, (9, 9), False)
                self.fails(InvalidNumber, wrong, lengths, wrong, cut)
                self.fails(InvalidNumber, wrong, row_to, wrong, cut, bad)
            self.fails(InvalidNumber, wrong, is_cut, corners=wrong, told=FAN)
            self.fails(InvalidNumber, wrong, row_to, corners=wrong, cut=FAN, other=FAN)

    def test_cuts(self):
        for wrong in WRONG_CUTS:
            for place in (0, -1, HUGE):
                self.fails(InvalidCut, wrong, exchanged, 5, wrong, place)
            for sides in (True, False):
                self.fails(InvalidCut, wrong, board_of, 5, wrong, sides)
                for told in ((0, 2), (2, 0), (0, HUGE)):
                    self.fails(InvalidCut, wrong, diagonal_sum, 5, wrong, told, sides)
            self.fails(InvalidCut, wrong, lengths, 5, wrong)
            self.fails(InvalidCut, wrong, row_to, 5, wrong, FAN)
            self.fails(InvalidCut, wrong, row_to, 5, wrong, ((0, 1), (7, 7)))
            self.fails(InvalidCut, wrong, row_to, 5, FAN, wrong)
            self.fails(InvalidCut, wrong, row_to, corners=5, cut=FAN, other=wrong)
            self.fails(InvalidCut, wrong, exchanged, corners=5, cut=wrong, place=7)
        for corners in (4, 6, 7):
            self.fails(InvalidCut, FAN, lengths, corners, FAN)

    def test_places(self):
        for corners in CORNERS:
            cut = all_cuts(corners)[0]
            for place in (-1, corners - 3, corners, HUGE, -HUGE):
                self.fails(InvalidPlace, place, exchanged, corners, cut, place)
                self.fails(InvalidPlace, place, exchanged, corners=corners, cut=cut, place=place)

    def test_diagonals(self):
        for corners in CORNERS:
            cut = all_cuts(corners)[-1]
            for told in [(2, 0), (1, 0), (0, 0), (corners - 1, 0), (-1, 0), (-1, 1), (0, corners), (1, corners),
                         (corners, corners + 1), (0, HUGE), (-HUGE, 0), (HUGE, HUGE)]:
                for sides in (True, False):
                    self.fails(InvalidDiagonal, told, diagonal_sum, corners, cut, told, sides)
                self.fails(InvalidDiagonal, told, diagonal_sum, corners=corners, cut=cut, told=told, sides=True)


if __name__ == "__main__":
    unittest.main()
