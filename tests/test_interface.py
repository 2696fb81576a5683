"""The names and the arguments that the document's interface lists."""
import importlib
import inspect
import unittest

FUNCTIONS = {
    "sums": """is_sum(told, many) letter(at, many) plus(one, other) times(one, other) power(one, times)
        divided(one, other) least_powers(one) freed(one) ones(one, places) value(one, numbers) put(one, others)""",
    "boards": """is_board(told) size(board) weights(board) swapped(board, place) swapped_by(board, row) pieces(board)
        table(board) unit_board(board) marked(board, rows) without_mark(board, at) negative(board) turned(board)
        renamed(board, order) first_renamed(board) beside(one, other) part(board, places)""",
    "hands": """first_hand(board) products(hand, place) swapped_hand(hand, place) hand_by(board, row)
        same_hands(one, other) beside_hands(board, row) shortened(row) sum_by(board, row)""",
    "ends": """is_endless(board) endless_row(board) shows_endless(board, row) types(board) how_many_hands(board)
        how_many_sums(board) all_rows(board) all_sums(board) row_between(board, row, other) farthest(board)""",
    "within": """written(board, row, told) is_let(board, told) barring(board, told) as_product(board, row, told)
        read_back(board, row, told)""",
    "rounds": "round_length(board, place, other) web(board) rings(board) distances(board)",
    "polygons": """is_cut(corners, told) cuts(corners) exchanged(corners, cut, place) board_of(corners, cut, sides)
        diagonal_sum(corners, cut, told, sides) lengths(corners, cut) row_to(corners, cut, other)""",
    "longrows": """values(board, row, numbers) order_back(board, row) long_row(board, row, times)
        long_values(board, row, times) comes_round(board, row, most)""",
    "columns": """columns(board, row) greens(board, row) is_green(board, row) is_full(board, row) first_red(board, row)
        full_rows(board, length) shortest_full(board, most) last_order(board, row) by_columns(board, row, other)""",
    "heights": """heights(board, row) shapes(board, row) height_of(board, told) shape_of(board, told) determinant(rows)
        sum_at(board, height, shape) row_to_height(board, height) hand_of_heights(board, told)""",
    "marks": """marks_at(board, row) by_heights(board, row) common_marks(board, shape) merged(board, at, other)
        merged_hand(hand, at, other) mark_freed(hand, at) scaled(board, at, times)""",
    "depths": """depth(board, told) depths(board) sums_of_depth(board, told) go_together(board, one, other)
        hands_with(board, sums) lots_together(board, many) partner(board, row, place)""",
    "alikes": """boards_of(board) are_alike(one, other) row_to_board(one, other, most) least_board(board) is_tree(board)
        row_to_tree(board, most) sources(board) directed_round(board)""",
    "folds": """rounds_of(order) is_fold(table, order) folds(table) folded(table, order) unfolded_row(order, row)
        folded_sum(order, told) folded_hand(table, order, row) steady(table, order, row)""",
    "belts": """is_parted(board) turn_places(board, turn) belt(board, turns) belt_hand(board, turns) half_length(board)
        belt_length(board) belt_sums(board) belt_values(board, turns) number_of(kind)""",
    "books": """behind(row, other) back(row) is_nothing(board, row) is_turn(board, row) lead_alike(board, one, other)
        least_row(board, row) rows_back(board, length) order_behind(board, row)""",
    "texts": "show_row(row) show_board(board) show_sum(told) show_hand(hand) show_numbers(numbers)",
    "readers": "read_row(text) read_board(text) read_hand(text) read_sum(text, many)",
}
# Each class with what it is made of, its properties and its methods.
CLASSES = {
    "live": ("Live(board)", "board sums row first", """__len__() swap(place) do(row) undo() sum_now(place)
        worth(place, numbers) columns() heights() greens() twin() order()"""),
    "desk": ("Desk()", "fork", """__len__() forks() names() put(name, board) note(name, row) make(name, deed) drop(name)
        branch(name) switch(name) undo() board_named(name) row_named(name) hand(board, row) same_as(name)
        lead_alike(board, one, other) is_endless(name) types(name) order(text)"""),
}


def calls(told):
    """The tuples (name, list of the arguments) of a text of calls."""
    for line in told.replace(")", ")\n").splitlines():
        if line.strip():
            name, arguments = line.strip().rstrip(")").split("(")
            yield name, [one for one in arguments.split(", ") if one]


class Interface(unittest.TestCase):
    def check(self, function, arguments):
        self.assertTrue(inspect.isfunction(function))
        parameters = inspect.signature(function).parameters.values()
        self.assertEqual([one.name for one in parameters], arguments, function)
        for one in parameters:
            self.assertIs(one.kind, inspect.Parameter.POSITIONAL_OR_KEYWORD)
            self.assertIs(one.default, inspect.Parameter.empty)

    def test_functions(self):
        for file, told in FUNCTIONS.items():
            module = importlib.import_module("neverhalves." + file)
            for name, arguments in calls(told):
                function = getattr(module, name)
                self.check(function, arguments)
                self.assertEqual(function.__module__, module.__name__)

    def test_classes(self):
        for file, (made, properties, methods) in CLASSES.items():
            module = importlib.import_module("neverhalves." + file)
            (name, arguments), = calls(made)
            own = vars(getattr(module, name))
            self.assertEqual(getattr(module, name).__module__, module.__name__)
            self.check(own["__init__"], ["self"] + arguments)
            for one in properties.split():
                self.assertIsInstance(own[one], property)
            for method, arguments in calls(methods):
                self.check(own[method], ["self"] + arguments)


if __name__ == "__main__":
    unittest.main()
