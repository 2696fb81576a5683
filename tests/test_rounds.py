"""neverhalves/rounds.py: its section, and what [9] promises of swaps at two places by turns."""
import itertools
import unittest

from helping import (
    APART, A4, B2, B3, D4, DOUBLE, ENDLESS, F4, FINITE, G2, LONE, MARKOV, THREE, TWO,
    Case, blocks, units, with_marks,
)
from neverhalves.boards import negative, swapped_by
from neverhalves.ends import all_rows, endless_row, how_many_hands
from neverhalves.errors import Endless, InvalidBoard, InvalidPlace
from neverhalves.hands import first_hand, hand_by, same_hands, swapped_hand
from neverhalves.rounds import distances, rings, round_length, web

HUGE = 10 ** 30
MARKED = with_marks(THREE, (1, -2, 0), (0, 3, 1))
SMALL = [LONE, TWO, APART, THREE, B2, G2, B3, MARKED, units(TWO), blocks(TWO, LONE), blocks(LONE, LONE, LONE)]


def round_plainly(board, place, other, most):
    """The least number of swaps by turns that lead back, tried with the hands themselves."""
    hand = first_hand(board)
    for many in range(1, most + 1):
        hand = swapped_hand(hand, other if many % 2 == 0 else place)
        if same_hands(hand, first_hand(board)) is not None:
            return many
    return None


def web_plainly(board):
    """The pairs of indexes of hands one swap from one another, by the hands themselves."""
    hands = [hand_by(board, row) for row in all_rows(board)]
    index = {tuple(sorted(hand[0])): at for at, hand in enumerate(hands)}
    pairs = set()
    for at, hand in enumerate(hands):
        for place in range(len(board[0])):
            to = index[tuple(sorted(swapped_hand(hand, place)[0]))]
            pairs.add((min(at, to), max(at, to)))
    return sorted(pairs)


def rings_plainly(board):
    """How many rounds there are of each length, each one as the lot of its hands."""
    found = set()
    for row in all_rows(board):
        for place, other in itertools.combinations(range(len(board[0])), 2):
            hand, lot = hand_by(board, row), []
            while tuple(sorted(hand[0])) not in lot:
                lot.append(tuple(sorted(hand[0])))
                hand = swapped_hand(hand, other if len(lot) % 2 == 0 else place)
            found.add(tuple(sorted(lot)))
    lengths = [len(lot) for lot in found]
    return [(length, lengths.count(length)) for length in sorted(set(lengths))]


class RoundLength(Case):
    def test_by_the_hands(self):
        for board in SMALL[1:] + [units(G2), units(B2), with_marks(G2, (4, -4)), negative(G2), F4, D4]:
            for place, other in itertools.permutations(range(len(board[0])), 2):
                wanted = round_plainly(board, place, other, 8)
                self.assertEqual(self.both_ways(round_length, board=board, place=place, other=other), wanted)

    def test_by_entries(self):
        for a, b, wanted in [(0, 0, 4), (1, -1, 5), (-1, 1, 5), (1, -2, 6), (2, -1, 6), (-2, 1, 6), (3, -1, 8),
                             (-1, 3, 8), (2, -2, None), (4, -1, None), (1, -4, None), (3, -2, None), (4, -4, None)]:
            self.assertEqual(round_length(((0, a), (b, 0)), 0, 1), wanted)
            self.assertEqual(round_length(((0, a), (b, 0), (4, 4)), 1, 0), wanted)

    def test_endless_boards(self):
        self.assertIsNone(round_length(DOUBLE, 0, 1))
        self.assertIsNone(self.both_ways(round_length, board=MARKOV, place=2, other=0))
        board = ((0, 1, 0), (-1, 0, 2), (0, -2, 0))
        self.assertEqual(round_length(board, 0, 1), 5)
        self.assertEqual(round_length(board, 0, 2), 4)
        self.assertIsNone(round_length(board, 1, 2))
        self.assertIsNone(round_plainly(((0, 1), (-4, 0)), 0, 1, 8))


class Nets(Case):
    def test_by_the_hands(self):
        for board in SMALL:
            self.assertEqual(self.both_ways(web, board=board), web_plainly(board))
            self.assertEqual(self.both_ways(rings, board=board), rings_plainly(board))
            rows = all_rows(board)
            wanted = [sum(len(row) == far for row in rows) for far in range(len(rows[-1]) + 1)]
            self.assertEqual(self.both_ways(distances, board=board), wanted)

    def test_distances_are_the_shortest_ways(self):
        for board in (TWO, THREE, MARKED, B3):
            pairs = web(board)
            far = {0: 0}
            waiting = [0]
            for at in waiting:
                for one, other in pairs:
                    for here, there in ((one, other), (other, one)):
                        if here == at and there not in far:
                            far[there] = far[at] + 1
                            waiting.append(there)
            wanted = [list(far.values()).count(steps) for steps in range(max(far.values()) + 1)]
            self.assertEqual(distances(board), wanted)

    def test_one_place(self):
        self.assertEqual(web(LONE), [(0, 1)])
        self.assertEqual(rings(LONE), [])
        self.assertEqual(distances(LONE), [1, 1])
        self.assertEqual(rings(with_marks(LONE, (3,))), [])

    def test_two_pieces(self):
        self.assertEqual(rings(APART), [(4, 1)])
        self.assertEqual(web(APART), [(0, 1), (0, 2), (1, 3), (2, 3)])
        self.assertEqual(distances(APART), [1, 2, 1])
        self.assertEqual(rings(blocks(TWO, TWO)), [(4, 25), (5, 10)])
        self.assertEqual(rings(blocks(G2, B2)), [(4, 48), (6, 8), (8, 6)])
        self.assertEqual(distances(blocks(TWO, LONE)), [1, 3, 4, 2])

    def test_each_type(self):
        for board, _, hands, _ in FINITE:
            places = len(board)
            self.assertEqual(len(web(board)), hands * places // 2)
            self.assertEqual(sum(distances(board)), hands)
            counts = rings(board)
            self.assertEqual(sum(length * many for length, many in counts), hands * places * (places - 1) // 2)
            for row in all_rows(board)[::7]:
                self.assertEqual(rings(swapped_by(board, row)), counts)
        self.assertEqual(rings(A4), [(4, 28), (5, 28)])
        self.assertEqual(rings(B3), [(4, 4), (5, 4), (6, 4)])
        self.assertEqual(rings(G2), [(8, 1)])
        self.assertEqual(rings(D4), [(4, 30), (5, 36)])
        self.assertEqual(distances(G2), [1, 2, 2, 2, 1])
        self.assertEqual(how_many_hands(F4), sum(distances(F4)))


class Errors(Case):
    def test_boards(self):
        for wrong in [(), ((),), ((1,),), ((0, 1), (1, 0)), ((0, 2), (0, 0))]:
            for function in (web, rings, distances):
                self.fails(InvalidBoard, wrong, function, wrong)
                self.fails(InvalidBoard, wrong, function, board=wrong)
            self.fails(InvalidBoard, wrong, round_length, wrong, 0, 1)
            self.fails(InvalidBoard, wrong, round_length, wrong, -1, -1)
            self.fails(InvalidBoard, wrong, round_length, board=wrong, place=7, other=8)

    def test_places(self):
        for board in (THREE, DOUBLE + ((1, 1),)):
            many = len(board[0])
            for place in (-1, many, HUGE, -HUGE):
                self.fails(InvalidPlace, place, round_length, board, place, 0)
                self.fails(InvalidPlace, place, round_length, board, 0, place)
                self.fails(InvalidPlace, place, round_length, board, place, -7)
                self.fails(InvalidPlace, place, round_length, board, place, place)
                self.fails(InvalidPlace, place, round_length, board=board, place=1, other=place)
            for place in range(many):
                self.fails(InvalidPlace, place, round_length, board, place, place)

    def test_endless(self):
        for board in ENDLESS + [((0, 0, -3), (0, 0, -1), (1, 1, 0))]:
            for function in (web, rings, distances):
                with self.assertRaises(Endless) as caught:
                    function(board)
                self.assertEqual(caught.exception.value, endless_row(board))
                with self.assertRaises(Endless) as caught:
                    function(board=board)
                self.assertEqual(caught.exception.value, endless_row(board))


if __name__ == "__main__":
    unittest.main()
