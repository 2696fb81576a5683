"""neverhalves/belts.py: its section, and what [9] promises of belts."""
import itertools
import math
import unittest

from helping import (
    A4, APART, B2, B4, C3, D4, DOUBLE, ENDLESS, FINITE, G2, LONE, MARKOV, SQUARE, THREE, TWO,
    Case, blocks, numbers_behind, units, with_marks,
)
from neverhalves.belts import (
    belt, belt_hand, belt_length, belt_sums, belt_values, half_length, is_parted, number_of, turn_places,
)
from neverhalves.boards import renamed
from neverhalves.ends import all_sums, endless_row, how_many_sums, is_endless
from neverhalves.errors import Endless, InvalidBoard, InvalidNumber
from neverhalves.hands import first_hand, hand_by, same_hands

HUGE = 10 ** 30
BOW = ((0, 1, 0), (-1, 0, -1), (0, 1, 0))
NOUGHTS = ((0,) * 3,) * 3
MARKED = with_marks(BOW, (1, -2, 0), (0, 3, -1))
WRONG_BOARDS = [(), ((),), ((1,),), ((0, 1), (1, 0)), ((0, 2), (0, 0)), ((0, 1), (-1, 0), (1,))]
UNPARTED = [THREE, MARKOV, A4, SQUARE, units(THREE), with_marks(THREE, (0, 1, 0)), B4]
# An endless board that is parted, with four places.
KITE = ((0, 1, 0, 1), (-1, 0, -1, 0), (0, 1, 0, 1), (-1, 0, -1, 0))
KINDS = {("A", 1): 2, ("A", 2): 3, ("A", 3): 4, ("A", 4): 5, ("B", 2): 4, ("B", 3): 6, ("B", 4): 8, ("C", 3): 6,
         ("C", 4): 8, ("D", 4): 6, ("F", 4): 12, ("G", 2): 6}


def parted(table):
    """A tree with its signs changed so that it is parted."""
    many = len(table)
    depth = {0: 0}
    while len(depth) < many:
        for at, far in itertools.product(range(many), repeat=2):
            if table[at][far] and at in depth and far not in depth:
                depth[far] = depth[at] + 1
    return tuple(tuple(abs(table[at][far]) * (-1) ** depth[at] for far in range(many)) for at in range(many))


PARTED = [(parted(table), kind) for table, kind, _, _ in FINITE]


def belt_plainly(board, turns):
    """The row, turn by turn, of the places without an entry below 0 and of all others."""
    rows = board[:len(board[0])]
    first = [at for at, row in enumerate(rows) if all(entry >= 0 for entry in row)]
    others = [at for at in range(len(rows)) if at not in first]
    return tuple(place for turn in range(turns) for place in (others if turn % 2 else first))


def lengths_plainly(board):
    """The half length and the belt length, by the hands."""
    start, half, turns = first_hand(board), None, 0
    while True:
        turns += 1
        hand = hand_by(board, belt_plainly(board, turns))
        if half is None and same_hands(hand, start) is not None:
            half = turns
        if turns % 2 == 0 and hand == start:
            return half, turns


class Parted(Case):
    def test_small_ones(self):
        self.assertIs(self.both_ways(is_parted, board=BOW), True)
        self.assertIs(self.both_ways(is_parted, board=THREE), False)
        for board in (LONE, TWO, APART, NOUGHTS, G2, DOUBLE, D4, KITE, units(TWO), MARKED, with_marks(LONE, (-3,))):
            self.assertIs(is_parted(board), True)
        for board in UNPARTED:
            self.assertIs(is_parted(board), False)

    def test_by_signs(self):
        for entries in itertools.product((-2, 0, 1), repeat=3):
            one, other, third = entries
            rows = ((0, one, other), (-one, 0, third), (-other, -third, 0))
            wanted = all(not (min(row) < 0 < max(row)) for row in rows)
            self.assertIs(is_parted(rows), wanted)
            self.assertIs(is_parted(with_marks(rows, (1, -1, 1))), wanted)

    def test_turns(self):
        self.assertEqual(self.both_ways(turn_places, board=BOW, turn=0), (0, 2))
        self.assertEqual([turn_places(BOW, turn) for turn in (1, 2, 3, HUGE, HUGE + 1)],
                         [(1,), (0, 2), (1,), (0, 2), (1,)])
        self.assertEqual([turn_places(LONE, turn) for turn in (0, 1, 2, HUGE + 1)], [(0,), (), (0,), ()])
        self.assertEqual([turn_places(NOUGHTS, turn) for turn in (0, 1)], [(0, 1, 2), ()])
        self.assertEqual([turn_places(blocks(LONE, B2, LONE), turn) for turn in (0, 1)], [(0, 1, 3), (2,)])
        self.assertEqual([turn_places(MARKED, turn) for turn in (0, 1)], [(0, 2), (1,)])
        self.assertEqual([turn_places(((0, -1), (1, 0)), turn) for turn in (0, 1)], [(1,), (0,)])

    def test_belt(self):
        self.assertEqual(self.both_ways(belt, board=BOW, turns=3), (0, 2, 1, 0, 2))
        for board in [told for told, _ in PARTED] + [MARKED, KITE, DOUBLE, NOUGHTS, blocks(LONE, B2)]:
            self.assertEqual(belt(board, 0), ())
            for turns in (1, 2, 5, 30):
                self.assertEqual(belt(board, turns), belt_plainly(board, turns))


class Hands(Case):
    def test_hands(self):
        self.assertEqual(self.both_ways(belt_hand, board=MARKED, turns=3), hand_by(MARKED, (0, 2, 1, 0, 2)))
        for board in (LONE, TWO, B2, G2, BOW, MARKED, APART, blocks(LONE, G2), with_marks(parted(A4), (1, 2, -3, 4)),
                      with_marks(LONE, (2,), (-1,))):
            for turns in list(range(18)) + [29, 30]:
                self.assertEqual(belt_hand(board, turns), hand_by(board, belt_plainly(board, turns)))

    def test_endless(self):
        for board in (DOUBLE, units(DOUBLE), with_marks(KITE, (1, 0, -1, 0)), ((0, 1), (-5, 0))):
            self.assertIs(is_endless(board), True)
            for turns in range(7 if len(board[0]) < 4 else 4):
                self.assertEqual(belt_hand(board, turns), hand_by(board, belt_plainly(board, turns)))

    def test_other_numbers(self):
        board = renamed(parted(D4), (2, 0, 3, 1))
        for turns in (0, 1, 7, 8, 16, 25):
            self.assertEqual(belt_hand(board, turns), hand_by(board, belt_plainly(board, turns)))


class Lengths(Case):
    def test_each_kind(self):
        for board, kind in PARTED:
            self.assertIs(is_parted(board), True)
            wanted = 3 if kind == ("A", 1) else KINDS[kind] + 2
            self.assertEqual(half_length(board), wanted, kind)
            whole = belt_length(board)
            self.assertEqual(whole % 2, 0)
            self.assertEqual(2 * (KINDS[kind] + 2) % whole, 0, kind)
            self.assertEqual(belt_hand(board, whole), first_hand(board))
            for other in (tuple(tuple(-entry for entry in row) for row in board), with_marks(board, board[0])):
                self.assertEqual([half_length(other), belt_length(other)], [wanted, whole])

    def test_small_ones(self):
        self.assertEqual(self.both_ways(half_length, board=BOW), 6)
        self.assertEqual(self.both_ways(belt_length, board=TWO), 10)
        self.assertEqual([half_length(LONE), belt_length(LONE)], [3, 4])
        self.assertEqual([half_length(TWO), belt_length(BOW)], [5, 12])
        # The least even number may be that of the half.
        self.assertEqual([half_length(B2), belt_length(B2)], [6, 6])
        self.assertEqual([half_length(NOUGHTS), belt_length(NOUGHTS)], [3, 4])

    def test_by_the_hands(self):
        for board in (LONE, TWO, B2, G2, BOW, C3, MARKED, APART, with_marks(LONE, (2,)), blocks(LONE, B2),
                      with_marks(parted(A4), (1, 0, 0, 2)), parted(D4), blocks(TWO, LONE)):
            if is_parted(board):
                self.assertEqual((half_length(board), belt_length(board)), lengths_plainly(board))

    def test_several_pieces(self):
        for one, other in itertools.product((LONE, TWO, B2, G2, APART), repeat=2):
            board = blocks(one, other)
            wanted = math.lcm(belt_length(one), belt_length(other))
            self.assertEqual(belt_length(board), wanted)
            start = first_hand(board)
            half = half_length(board)
            self.assertIsNotNone(same_hands(belt_hand(board, half), start))
            self.assertTrue(all(same_hands(belt_hand(board, turns), start) is None for turns in range(1, min(half, 31))))


class Sums(Case):
    def test_on_the_belt(self):
        for board in [told for told, kind in PARTED if kind[0] != "F"] + [
                MARKED, blocks(LONE, G2), blocks(TWO, B2), APART, with_marks(LONE, (2,), (-1,)), units(TWO)]:
            found = set()
            for turns in range(belt_length(board)):
                found.update(hand_by(board, belt_plainly(board, turns))[0])
            self.assertEqual(belt_sums(board), sorted(found))
            self.assertEqual(len(belt_sums(board)), how_many_sums(board))
            self.assertEqual(belt_sums(board), all_sums(board))
        self.assertEqual(len(self.both_ways(belt_sums, board=BOW)), 9)


class Values(Case):
    def test_small_ones(self):
        self.assertEqual(self.both_ways(belt_values, board=TWO, turns=4), [(1, 1), (2, 1), (2, 3), (2, 3), (2, 1)])
        self.assertEqual(belt_values(TWO, 0), [(1, 1)])
        self.assertEqual(belt_values(LONE, 5), [(1,), (2,), (2,), (1,), (1,), (2,)])
        self.assertEqual(belt_values(DOUBLE, 3), [(1, 1), (2, 1), (2, 5), (13, 5)])
        self.assertEqual(belt_values(NOUGHTS, 1), [(1, 1, 1), (2, 2, 2)])

    def test_against_numbers(self):
        for board in [told for told, _ in PARTED] + [MARKED, with_marks(LONE, (4,)), KITE, DOUBLE, ((0, 4), (-4, 0))]:
            turns = 6 if is_endless(board) else 14
            told = belt_values(board, turns)
            self.assertEqual(len(told), turns + 1)
            for at, numbers in enumerate(told):
                wanted = numbers_behind(board, belt_plainly(board, at), [1] * len(board))
                self.assertEqual(list(numbers), wanted)
                self.assertTrue(all(type(number) is int for number in numbers))


class Numbers(Case):
    def test_all_kinds(self):
        for kind, wanted in KINDS.items():
            self.assertEqual(self.both_ways(number_of, kind=kind), wanted)

    def test_others(self):
        for name in ("A", "B", "C", "D", "E", "F", "G", "", "AB", "a", " ", "A3", "~"):
            for many in (-HUGE, -1, 0, 1, 2, 3, 4, 5, 6, HUGE):
                kind = (name, many)
                if kind not in KINDS:
                    self.fails(InvalidNumber, kind, number_of, kind)
                    self.fails(InvalidNumber, kind, number_of, kind=kind)


class Errors(Case):
    def test_boards(self):
        for wrong in WRONG_BOARDS + UNPARTED:
            self.fails(InvalidBoard, wrong, turn_places, wrong, -1)
            self.fails(InvalidBoard, wrong, belt, wrong, -1)
            self.fails(InvalidBoard, wrong, belt_hand, wrong, -1)
            self.fails(InvalidBoard, wrong, half_length, wrong)
            self.fails(InvalidBoard, wrong, belt_length, wrong)
            self.fails(InvalidBoard, wrong, belt_sums, wrong)
            self.fails(InvalidBoard, wrong, belt_values, wrong, -1)
            self.fails(InvalidBoard, wrong, turn_places, board=wrong, turn=0)
            self.fails(InvalidBoard, wrong, belt_values, board=wrong, turns=0)
            self.fails(InvalidBoard, wrong, belt_sums, board=wrong)
        for wrong in WRONG_BOARDS:
            self.fails(InvalidBoard, wrong, is_parted, wrong)
            self.fails(InvalidBoard, wrong, is_parted, board=wrong)

    def test_turns(self):
        for board in (TWO, MARKED, DOUBLE, LONE):
            for wrong in (-1, -2, -HUGE):
                self.fails(InvalidNumber, wrong, turn_places, board, wrong)
                self.fails(InvalidNumber, wrong, belt, board, wrong)
                self.fails(InvalidNumber, wrong, belt_hand, board, wrong)
                self.fails(InvalidNumber, wrong, belt_values, board, wrong)
                self.fails(InvalidNumber, wrong, turn_places, board=board, turn=wrong)
                self.fails(InvalidNumber, wrong, belt_hand, board=board, turns=wrong)

    def test_endless(self):
        for board in [told for told in ENDLESS if is_parted(told)] + [KITE, units(DOUBLE), blocks(LONE, DOUBLE)]:
            for function in (half_length, belt_length, belt_sums):
                with self.assertRaises(Endless) as caught:
                    function(board)
                self.assertEqual(caught.exception.value, endless_row(board))
                self.assertIs(type(caught.exception.value), tuple)
            self.assertIs(is_parted(board), True)


if __name__ == "__main__":
    unittest.main()
