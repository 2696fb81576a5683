"""What the document promises of the whole program: one session in which the files pass things on to one another."""
import copy
import importlib
import inspect
import unittest

from helping import A4, B3, D4, DOUBLE, G2, MARKS, THREE, TWO, Case, frozen, random_row, units, with_marks
from neverhalves import (
    alikes, belts, boards, books, columns, depths, ends, errors, folds, hands, heights, live, longrows, marks, polygons,
    readers, rounds, sums, texts, within,
)
from neverhalves.desk import Desk
from test_interface import FUNCTIONS, calls

MARKED = with_marks(THREE, (1, -2, 0), (0, 3, 1))
BOW = ((0, 1, 0), (-1, 0, -1), (0, 1, 0))

# The names of the interface, by their files.
PUBLIC = {file: [name for name, _ in calls(told)] for file, told in FUNCTIONS.items()}


def lists_in(told):
    """All lists at any depth."""
    found = [told] if isinstance(told, list) else []
    if isinstance(told, (list, tuple)):
        for item in told:
            found.extend(lists_in(item))
    return found


class PassedOn(Case):
    def test_hands_boards_sums_and_rows(self):
        for board in (TWO, MARKED, B3, G2, units(TWO), with_marks(D4, *MARKS[:2])):
            for row in ends.all_rows(board)[::3]:
                hand = hands.hand_by(board, row)
                self.assertEqual(readers.read_hand(texts.show_hand(hand)), hand)
                self.assertEqual(readers.read_row(texts.show_row(row)), row)
                self.assertEqual(books.least_row(board, row) if len(row) < 7 else row, row)
                told = boards.swapped_by(board, row)
                self.assertEqual(readers.read_board(texts.show_board(told)), told)
                self.assertEqual(ends.types(told), ends.types(board))
                self.assertEqual(alikes.least_board(told), alikes.least_board(board))
                self.assertEqual(marks.by_heights(board, row), list(hand[0]))
                one = live.Live(board)
                one.do(row)
                self.assertEqual(one.sums, list(hand[0]))
                self.assertIn(row, depths.hands_with(board, one.sums))
                self.assertIs(books.lead_alike(board, row, ends.row_between(board, (), row)), True)
                self.assertEqual(heights.hand_of_heights(board, one.heights()), row)
                self.assertEqual(columns.columns(board, row), one.columns())
                for place, told in enumerate(hand[0]):
                    self.assertEqual(readers.read_sum(texts.show_sum(told), len(board)), told)
                    if len(told) < 9 and all(len(other) < 9 for other in hand[0]) and len(row) < 4:
                        self.assertEqual(within.as_product(board, row, told),
                                         tuple(int(at == place) for at in range(len(board))))
                        self.assertEqual(within.read_back(board, row, sums.letter(place, len(board))), told)

    def test_cuts_folds_and_belts(self):
        for cut in polygons.cuts(6):
            board = polygons.board_of(6, cut, True)
            self.assertEqual(ends.types(board), [("A", 3)])
            for order in folds.folds(boards.table(board)):
                told = folds.folded(boards.table(board), order)
                self.assertTrue(set(ends.types(told)) <= {("B", 2), ("A", 1), ("G", 2)})
                self.assertEqual(len(ends.all_rows(told)), ends.how_many_hands(told))
                self.assertEqual(folds.folded_hand(boards.table(board), order, (0, 1)), hands.hand_by(told, (0, 1)))
            if belts.is_parted(board):
                hand = belts.belt_hand(board, 5)
                self.assertEqual(hands.same_hands(hand, hand), (0, 1, 2))
                row = belts.belt(board, belts.half_length(board))
                self.assertIs(books.is_turn(board, row), True)
        self.assertEqual(belts.belt_values(folds.folded(BOW, (2, 1, 0)), 3)[3], (3, 5))
        self.assertEqual(rounds.round_length(folds.folded(BOW, (2, 1, 0)), 0, 1), 6)

    def test_a_desk_and_its_texts(self):
        desk = Desk()
        desk.order("put t " + texts.show_board(MARKED))
        for at, row in enumerate(ends.all_rows(MARKED)):
            desk.order("note r " + texts.show_row(row))
            self.assertEqual(readers.read_hand(desk.order("hand t r")), hands.hand_by(MARKED, row))
            desk.make("u", ("swapped", "t", "r"))
            self.assertEqual(desk.board_named("u"), boards.swapped_by(MARKED, row))
        self.assertEqual(longrows.order_back(desk.board_named("t"), (0, 0)), (0, 1, 2))


class Lists(Case):
    """Each call of a function that tells lists, twice: all lists are new ones, and the arguments stay."""

    CALLS = [
        (boards.pieces, (MARKED,)), (hands.beside_hands, (MARKED, (0,))), (ends.types, (MARKED,)), (ends.all_rows, (MARKED,)),
        (ends.all_sums, (MARKED,)), (rounds.web, (MARKED,)), (rounds.rings, (MARKED,)), (rounds.distances, (MARKED,)),
        (polygons.cuts, (5,)), (polygons.lengths, (5, ((0, 2), (0, 3)))), (longrows.values, (TWO, (0,), [1, 2])),
        (longrows.long_values, (TWO, (0,), 4)), (columns.columns, (MARKED, (0,))), (columns.greens, (MARKED, (0,))),
        (columns.full_rows, (TWO, 3)), (heights.heights, (MARKED, (0,))), (heights.shapes, (MARKED, (0,))),
        (marks.marks_at, (MARKED, (0,))), (marks.by_heights, (MARKED, (0,))), (depths.depths, (MARKED,)),
        (depths.sums_of_depth, (MARKED, (1, 0, 0))), (depths.hands_with, (MARKED, [sums.letter(1, 5)])),
        (alikes.boards_of, (MARKED,)), (alikes.sources, (MARKED,)), (folds.rounds_of, ((2, 1, 0),)), (folds.folds, (BOW,)),
        (belts.belt_sums, (BOW,)), (belts.belt_values, (BOW, 3)), (books.rows_back, (TWO, 5)),
    ]

    def test_lists_are_new(self):
        for function, told in self.CALLS:
            before = frozen(told)
            given = copy.deepcopy(told)
            first, second = function(*given), function(*given)
            self.assertEqual(frozen(first), frozen(second), function)
            found = lists_in(first)
            self.assertTrue(found, function)
            others = lists_in(second) + lists_in(given)
            self.assertEqual(len({id(one) for one in found}), len(found))
            self.assertFalse({id(one) for one in found} & {id(one) for one in others}, function)
            for one in found:
                one.clear()
            self.assertEqual(frozen(function(*given)), frozen(second), function)
            self.assertEqual(frozen(given), before)

    def test_lists_that_errors_hold(self):
        wrong = [1, 0]
        calls = [(sums.value, (sums.letter(0, 2), wrong)), (longrows.values, (TWO, (), wrong)),
                 (live.Live(TWO).worth, (0, wrong)), (sums.put, (sums.letter(0, 2), [sums.letter(0, 1)])),
                 (heights.determinant, ([(1, 2)],)), (boards.part, (TWO, [1, 0]))]
        for function, told in calls:
            with self.assertRaises(errors.SwapError) as caught:
                function(*told)
            held = caught.exception.value
            self.assertIsInstance(held, list)
            self.assertEqual(held, told[-1])
            self.assertIsNot(held, told[-1])
            held.append(5)
            self.assertEqual(wrong, [1, 0])


class Faults(Case):
    """Two and three faults at once: the first in the order counts."""

    def test_boards_ahead_of_all(self):
        files = [hands, ends, within, rounds, longrows, columns, heights, marks, depths, alikes, belts, books]
        wrong = ((0, 1), (1, 0))
        values = {"row": (-1,), "other": (9,), "one": (-2,), "place": -1, "told": (((0,), 0),), "turn": -1, "turns": -1,
                  "length": -1, "times": 0, "most": -1, "numbers": [0], "height": (), "shape": (), "sums": [()], "many": -1,
                  "at": -1}
        tried = 0
        for file in files:
            for name, function in inspect.getmembers(file, inspect.isfunction):
                parameters = list(inspect.signature(function).parameters)
                if parameters[:1] == ["board"] and name in PUBLIC[file.__name__.split(".")[1]]:
                    told = [values[one] for one in parameters[1:]]
                    self.fails(errors.InvalidBoard, wrong, function, wrong, *told)
                    tried += 1
        self.assertGreater(tried, 60)

    def test_rows_ahead_of_ends(self):
        row = (0, 2)
        for function, told in [(ends.row_between, (row, (5,))), (ends.row_between, ((), row)), (ends.shows_endless, (row,)),
                               (books.lead_alike, (row, (7,))), (longrows.long_row, (row, 0)), (heights.heights, (row,)),
                               (depths.partner, (row, 9))]:
            self.fails(errors.InvalidRow, row, function, DOUBLE, *told)

    def test_endless_last(self):
        for function, told, error, wrong in [
            (depths.lots_together, (3,), errors.InvalidNumber, 3), (depths.sums_of_depth, ((1,),), errors.InvalidDepth, (1,)),
            (heights.row_to_height, ((1,),), errors.InvalidHeight, (1,)),
            (heights.hand_of_heights, ([(0, 0), (1,)],), errors.InvalidHeight, (1,)),
            (depths.hands_with, ([()],), errors.InvalidSum, ()),
        ]:
            with self.assertRaises(errors.SwapError) as caught:
                function(DOUBLE, *told)
            self.assertIs(type(caught.exception), error)
            self.assertEqual(caught.exception.value, wrong)


class Modules(unittest.TestCase):
    def test_errors_hold_anything(self):
        for name in ("InvalidName", "DoubleName", "UnknownName", "WrongKind", "NothingToUndo", "Unreadable"):
            error = getattr(importlib.import_module("neverhalves.errors"), name)
            thing = [name]
            self.assertIs(error(thing).value, thing)
            self.assertIs(error(value=thing).value, thing)
            self.assertEqual(error.__bases__, (errors.SwapError,))

    def test_rows_of_many_kinds(self):
        for seed in range(10):
            row = random_row(seed, 4, 6)
            self.assertEqual(readers.read_row(texts.show_row(row)), row)
            self.assertIs(books.is_nothing(A4, books.behind(row, books.back(row))), True)


if __name__ == "__main__":
    unittest.main()
